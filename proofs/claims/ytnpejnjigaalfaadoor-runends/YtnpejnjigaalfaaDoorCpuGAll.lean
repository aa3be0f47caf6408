/- What the code's Step returns: where it ends at once. What the code's Step returns, by the operation. What the code's Step returns, by the operation. What the code's Step returns of what is pure, and of None. -/
import Derived.Test.YtnpejnjigaalfaaDoorCpuF
namespace Go.Proofs.YtnpejnjigaalfaaDoor
open Go.ChangeShapes Go.WideShapes Go.ChangeAt Go.RowKit
set_option linter.unusedVariables false
set_option linter.unusedSimpArgs false
set_option maxRecDepth 100000 in
theorem step_en {w : World} {C : Array Value} {s : St} (h : IsSt w (.agg C) s) (he : s.en = true) (a : Option Addr) (n c : Nat) :
    Calls Tryd.prog 46 #[.slice a n c, .agg C] w (StPost w C s) := by
  have B0 : Hid (Boxed w ((w.alloc (.cells C 37)).alloc (.cells noSt 37)) w.heap.size (w.heap.size + 1) C C s) := Boxed.new h _ _
  clear h
  go_enter Tryd.func46, Tryd.ntmps46
  go_upto_region 1 with fail
  rw [noSt_def]
  generalize (w.alloc (.cells C 37)).alloc (.cells noSt 37) = w0 at B0 ⊢
  obtain ⟨-, -, -, x22, -, -⟩ := cell_st B0.out
  rw [he] at x22
  have TT : Hid (Told w (w0.setCells (w.heap.size + 1) 0 C.toList) (w.heap.size + 1) C C (s)) := Told.same B0.out
  go_wp2_with (first
    | ((with_reducible show wpList _ _ _ (Oper.mk _ (Op.load _ _) _ _ _ _ :: _) _ _); refine wpList_load_if (by rfl) 37 (.tmp 3) rfl w.heap.size 0 rfl C.toList _ (at_range B0.out.at_) Tryd.underlying37 rfl (st_info B0.out.st).2 ?_)
    | ((with_reducible show wpList _ _ _ (Oper.mk _ (Op.store _ _ _) _ _ _ _ :: _) _ _); refine wpList_store_room (w := w) rfl (.tmp 4) (.tmp 9) rfl (w.heap.size + 1) C rfl rfl B0.out.st B0.out.room ?_))
  exact bodyPost_ret (v := .agg C) (results_st rfl _ (w.heap.size + 1) (by first | rfl | simp) TT.out.st _ TT.out.at_) rfl TT.out.post
set_option maxRecDepth 100000 in
theorem step_bad {w : World} {C : Array Value} {s : St} (h : IsSt w (.agg C) s) (he : s.en = false) (a : Option Addr) (n c : Nat)
    (hF : ∀ W, Below w.heap.size w W → Calls Tryd.prog 50 #[.slice a n c, .int .i64 s.at_] W fun e w' => e = .returned (.tuple #[.agg #[.int .i64 0, .int .i64 0, .int .i64 0, .int .i64 0, .int .i64 0], .bool false]) ∧ Below W.heap.size W w') :
    Calls Tryd.prog 46 #[.slice a n c, .agg C] w (StPost w C (s.stop 2)) := by
  have B0 : Hid (Boxed w ((w.alloc (.cells C 37)).alloc (.cells noSt 37)) w.heap.size (w.heap.size + 1) C C s) := Boxed.new h _ _
  clear h
  go_enter Tryd.func46, Tryd.ntmps46
  go_upto_region 1 with fail
  rw [noSt_def]
  generalize (w.alloc (.cells C 37)).alloc (.cells noSt 37) = w0 at B0 ⊢
  have HF : Hid (∀ W, Below w0.heap.size w0 W → Calls Tryd.prog 50 #[.slice a n c, .int .i64 s.at_] W fun e w' => e = .returned (.tuple #[.agg #[.int .i64 0, .int .i64 0, .int .i64 0, .int .i64 0, .int .i64 0], .bool false]) ∧ Below W.heap.size W w') := fun W hW => hF W (bnext B0.out.bel hW)
  clear hF
  obtain ⟨x0, -, -, x22, -, -⟩ := cell_st B0.out
  rw [he] at x22
  go_upto_region 4 with (go_at_call 50; refine (HF.out _ (Below.refl _ _)).mono ?_; rintro e w1 ⟨rfl, hb1⟩; have HB1 : Hid (Below w0.heap.size w0 w1) := hb1)
  have B1 : Hid (Boxed w (w1.alloc (.cells #[.int .i64 0, .int .i64 0, .int .i64 0, .int .i64 0, .int .i64 0] 54)) w.heap.size (w.heap.size + 1) C C s) := (B0.out.later HB1.out).later ((Below.refl _ _).alloc (Nat.le_refl _) _)
  have I1 : Hid (InsAt (w1.alloc (.cells #[.int .i64 0, .int .i64 0, .int .i64 0, .int .i64 0, .int .i64 0] 54)) w1.heap.size 0 0 0 0 0) := InsAt.new _ _ _ _ _ _ _
  have L1 : Hid (w.heap.size + 1 < w1.heap.size) := by have h1 := B0.out.hb; have h2 := HB1.out.size; have h3 := B0.out.hb.2.2.2.2; show _ < _; omega
  clear x0 x22 hb1 HB1 HF B0
  generalize w1.alloc (.cells #[.int .i64 0, .int .i64 0, .int .i64 0, .int .i64 0, .int .i64 0] 54) = w2 at B1 I1 ⊢
  go_wp2_with (first
    | (go_at_call 51; refine (fault_st B1.out.st 2).mono ?_; rintro e w9 ⟨C9, rfl, h9, v9, b9⟩)
    | ((with_reducible show wpList _ _ _ (Oper.mk _ (Op.load _ _) _ _ _ _ :: _) _ _); refine wpList_load_if (by rfl) 37 (.tmp 3) rfl w.heap.size 0 rfl C.toList _ (at_range B1.out.at_) Tryd.underlying37 rfl (st_info B1.out.st).2 ?_)
    | ((with_reducible show wpList _ _ _ (Oper.mk _ (Op.store _ _ _) _ _ _ _ :: _) _ _); refine wpList_store_room (w := w) rfl (.tmp 4) (.tmp 20) rfl (w.heap.size + 1) C9 rfl rfl h9 (there_later B1.out.room b9) ?_))
  have TT := Told.call B1.out b9 h9 v9
  exact bodyPost_ret (v := .agg C9) (results_st rfl _ (w.heap.size + 1) (by first | rfl | simp) TT.st _ TT.at_) rfl TT.post
open Go.ChangeShapes Go.WideShapes Go.ChangeAt Go.RowKit
set_option linter.unusedVariables false
set_option linter.unusedSimpArgs false
set_option maxRecDepth 100000 in
theorem step_11 {w : World} {C : Array Value} {s : St} (h : IsSt w (.agg C) s) (hs : Small s) (he : s.en = false) (a : Option Addr) (n c : Nat) (ra rb rc : Nat) (imm : Int) (ha : ra < 16) (hb : rb < 16) (hc : rc < 16) (hi : -1073741824 ≤ imm ∧ imm ≤ 1073741824)
    (hF : ∀ W, Below w.heap.size w W → Calls Tryd.prog 50 #[.slice a n c, .int .i64 s.at_] W fun e w' => e = .returned (.tuple #[.agg #[.int .i64 11, .int .i64 ra, .int .i64 rb, .int .i64 rc, .int .i64 imm], .bool true]) ∧ Below W.heap.size W w') :
    Calls Tryd.prog 46 #[.slice a n c, .agg C] w (StPost w C (opZ 11 ra rb rc imm s)) := by
  have B0 : Hid (Boxed w ((w.alloc (.cells C 37)).alloc (.cells noSt 37)) w.heap.size (w.heap.size + 1) C C s) := Boxed.new h _ _
  clear h
  go_enter Tryd.func46, Tryd.ntmps46
  go_upto_region 1 with fail
  rw [noSt_def]
  generalize (w.alloc (.cells C 37)).alloc (.cells noSt 37) = w0 at B0 ⊢
  have HF : Hid (∀ W, Below w0.heap.size w0 W → Calls Tryd.prog 50 #[.slice a n c, .int .i64 s.at_] W fun e w' => e = .returned (.tuple #[.agg #[.int .i64 11, .int .i64 ra, .int .i64 rb, .int .i64 rc, .int .i64 imm], .bool true]) ∧ Below W.heap.size W w') := fun W hW => hF W (bnext B0.out.bel hW)
  clear hF
  obtain ⟨x0, -, -, x22, -, -⟩ := cell_st B0.out
  rw [he] at x22
  go_upto_region 4 with (go_at_call 50; refine (HF.out _ (Below.refl _ _)).mono ?_; rintro e w1 ⟨rfl, hb1⟩; have HB1 : Hid (Below w0.heap.size w0 w1) := hb1)
  have B1 : Hid (Boxed w (w1.alloc (.cells #[.int .i64 11, .int .i64 ra, .int .i64 rb, .int .i64 rc, .int .i64 imm] 54)) w.heap.size (w.heap.size + 1) C C s) := (B0.out.later HB1.out).later ((Below.refl _ _).alloc (Nat.le_refl _) _)
  have I1 : Hid (InsAt (w1.alloc (.cells #[.int .i64 11, .int .i64 ra, .int .i64 rb, .int .i64 rc, .int .i64 imm] 54)) w1.heap.size 11 ra rb rc imm) := InsAt.new _ _ _ _ _ _ _
  have L1 : Hid (w.heap.size + 1 < w1.heap.size) := by have h1 := B0.out.hb; have h2 := HB1.out.size; have h3 := B0.out.hb.2.2.2.2; show _ < _; omega
  clear x0 x22 hb1 HB1 HF B0
  generalize w1.alloc (.cells #[.int .i64 11, .int .i64 ra, .int .i64 rb, .int .i64 rc, .int .i64 imm] 54) = w2 at B1 I1 ⊢
  obtain ⟨y0, y1, y2, y3, y4⟩ := id I1.out
  go_wp2_with (first
    | (go_at_call 52; refine (load_op B1.out.st hs 11 ra rb rc imm ha hb hi (by omega)).mono ?_; rintro e w9 ⟨C9, rfl, h9, v9, b9⟩)
    | ((with_reducible show wpList _ _ _ (Oper.mk _ (Op.load _ _) _ _ _ _ :: _) _ _); refine wpList_load_if (by rfl) 37 (.tmp 3) rfl w.heap.size 0 rfl C.toList _ (at_range B1.out.at_) Tryd.underlying37 rfl (st_info B1.out.st).2 ?_)
    | ((with_reducible show wpList _ _ _ (Oper.mk _ (Op.store _ _ _) _ _ _ _ :: _) _ _); refine wpList_store_room (w := w) rfl (.tmp 4) (.tmp 28) rfl (w.heap.size + 1) C9 rfl rfl h9 (there_later B1.out.room b9) ?_))
  have TT := Told.call B1.out b9 h9 v9
  exact bodyPost_ret (v := .agg C9) (results_st rfl _ (w.heap.size + 1) (by first | rfl | simp) TT.st _ TT.at_) rfl TT.post
set_option maxRecDepth 100000 in
theorem step_13 {w : World} {C : Array Value} {s : St} (h : IsSt w (.agg C) s) (hs : Small s) (he : s.en = false) (a : Option Addr) (n c : Nat) (ra rb rc : Nat) (imm : Int) (ha : ra < 16) (hb : rb < 16) (hc : rc < 16) (hi : -1073741824 ≤ imm ∧ imm ≤ 1073741824)
    (hF : ∀ W, Below w.heap.size w W → Calls Tryd.prog 50 #[.slice a n c, .int .i64 s.at_] W fun e w' => e = .returned (.tuple #[.agg #[.int .i64 13, .int .i64 ra, .int .i64 rb, .int .i64 rc, .int .i64 imm], .bool true]) ∧ Below W.heap.size W w') :
    Calls Tryd.prog 46 #[.slice a n c, .agg C] w (StPost w C (opZ 13 ra rb rc imm s)) := by
  have B0 : Hid (Boxed w ((w.alloc (.cells C 37)).alloc (.cells noSt 37)) w.heap.size (w.heap.size + 1) C C s) := Boxed.new h _ _
  clear h
  go_enter Tryd.func46, Tryd.ntmps46
  go_upto_region 1 with fail
  rw [noSt_def]
  generalize (w.alloc (.cells C 37)).alloc (.cells noSt 37) = w0 at B0 ⊢
  have HF : Hid (∀ W, Below w0.heap.size w0 W → Calls Tryd.prog 50 #[.slice a n c, .int .i64 s.at_] W fun e w' => e = .returned (.tuple #[.agg #[.int .i64 13, .int .i64 ra, .int .i64 rb, .int .i64 rc, .int .i64 imm], .bool true]) ∧ Below W.heap.size W w') := fun W hW => hF W (bnext B0.out.bel hW)
  clear hF
  obtain ⟨x0, -, -, x22, -, -⟩ := cell_st B0.out
  rw [he] at x22
  go_upto_region 4 with (go_at_call 50; refine (HF.out _ (Below.refl _ _)).mono ?_; rintro e w1 ⟨rfl, hb1⟩; have HB1 : Hid (Below w0.heap.size w0 w1) := hb1)
  have B1 : Hid (Boxed w (w1.alloc (.cells #[.int .i64 13, .int .i64 ra, .int .i64 rb, .int .i64 rc, .int .i64 imm] 54)) w.heap.size (w.heap.size + 1) C C s) := (B0.out.later HB1.out).later ((Below.refl _ _).alloc (Nat.le_refl _) _)
  have I1 : Hid (InsAt (w1.alloc (.cells #[.int .i64 13, .int .i64 ra, .int .i64 rb, .int .i64 rc, .int .i64 imm] 54)) w1.heap.size 13 ra rb rc imm) := InsAt.new _ _ _ _ _ _ _
  have L1 : Hid (w.heap.size + 1 < w1.heap.size) := by have h1 := B0.out.hb; have h2 := HB1.out.size; have h3 := B0.out.hb.2.2.2.2; show _ < _; omega
  clear x0 x22 hb1 HB1 HF B0
  generalize w1.alloc (.cells #[.int .i64 13, .int .i64 ra, .int .i64 rb, .int .i64 rc, .int .i64 imm] 54) = w2 at B1 I1 ⊢
  obtain ⟨y0, y1, y2, y3, y4⟩ := id I1.out
  go_wp2_with (first
    | (go_at_call 52; refine (load_op B1.out.st hs 13 ra rb rc imm ha hb hi (by omega)).mono ?_; rintro e w9 ⟨C9, rfl, h9, v9, b9⟩)
    | ((with_reducible show wpList _ _ _ (Oper.mk _ (Op.load _ _) _ _ _ _ :: _) _ _); refine wpList_load_if (by rfl) 37 (.tmp 3) rfl w.heap.size 0 rfl C.toList _ (at_range B1.out.at_) Tryd.underlying37 rfl (st_info B1.out.st).2 ?_)
    | ((with_reducible show wpList _ _ _ (Oper.mk _ (Op.store _ _ _) _ _ _ _ :: _) _ _); refine wpList_store_room (w := w) rfl (.tmp 4) (.tmp 28) rfl (w.heap.size + 1) C9 rfl rfl h9 (there_later B1.out.room b9) ?_))
  have TT := Told.call B1.out b9 h9 v9
  exact bodyPost_ret (v := .agg C9) (results_st rfl _ (w.heap.size + 1) (by first | rfl | simp) TT.st _ TT.at_) rfl TT.post
set_option maxRecDepth 100000 in
theorem step_12 {w : World} {C : Array Value} {s : St} (h : IsSt w (.agg C) s) (hs : Small s) (he : s.en = false) (a : Option Addr) (n c : Nat) (ra rb rc : Nat) (imm : Int) (ha : ra < 16) (hb : rb < 16) (hc : rc < 16) (hi : -1073741824 ≤ imm ∧ imm ≤ 1073741824)
    (hF : ∀ W, Below w.heap.size w W → Calls Tryd.prog 50 #[.slice a n c, .int .i64 s.at_] W fun e w' => e = .returned (.tuple #[.agg #[.int .i64 12, .int .i64 ra, .int .i64 rb, .int .i64 rc, .int .i64 imm], .bool true]) ∧ Below W.heap.size W w') :
    Calls Tryd.prog 46 #[.slice a n c, .agg C] w (StPost w C (opZ 12 ra rb rc imm s)) := by
  have B0 : Hid (Boxed w ((w.alloc (.cells C 37)).alloc (.cells noSt 37)) w.heap.size (w.heap.size + 1) C C s) := Boxed.new h _ _
  clear h
  go_enter Tryd.func46, Tryd.ntmps46
  go_upto_region 1 with fail
  rw [noSt_def]
  generalize (w.alloc (.cells C 37)).alloc (.cells noSt 37) = w0 at B0 ⊢
  have HF : Hid (∀ W, Below w0.heap.size w0 W → Calls Tryd.prog 50 #[.slice a n c, .int .i64 s.at_] W fun e w' => e = .returned (.tuple #[.agg #[.int .i64 12, .int .i64 ra, .int .i64 rb, .int .i64 rc, .int .i64 imm], .bool true]) ∧ Below W.heap.size W w') := fun W hW => hF W (bnext B0.out.bel hW)
  clear hF
  obtain ⟨x0, -, -, x22, -, -⟩ := cell_st B0.out
  rw [he] at x22
  go_upto_region 4 with (go_at_call 50; refine (HF.out _ (Below.refl _ _)).mono ?_; rintro e w1 ⟨rfl, hb1⟩; have HB1 : Hid (Below w0.heap.size w0 w1) := hb1)
  have B1 : Hid (Boxed w (w1.alloc (.cells #[.int .i64 12, .int .i64 ra, .int .i64 rb, .int .i64 rc, .int .i64 imm] 54)) w.heap.size (w.heap.size + 1) C C s) := (B0.out.later HB1.out).later ((Below.refl _ _).alloc (Nat.le_refl _) _)
  have I1 : Hid (InsAt (w1.alloc (.cells #[.int .i64 12, .int .i64 ra, .int .i64 rb, .int .i64 rc, .int .i64 imm] 54)) w1.heap.size 12 ra rb rc imm) := InsAt.new _ _ _ _ _ _ _
  have L1 : Hid (w.heap.size + 1 < w1.heap.size) := by have h1 := B0.out.hb; have h2 := HB1.out.size; have h3 := B0.out.hb.2.2.2.2; show _ < _; omega
  clear x0 x22 hb1 HB1 HF B0
  generalize w1.alloc (.cells #[.int .i64 12, .int .i64 ra, .int .i64 rb, .int .i64 rc, .int .i64 imm] 54) = w2 at B1 I1 ⊢
  obtain ⟨y0, y1, y2, y3, y4⟩ := id I1.out
  go_wp2_with (first
    | (go_at_call 53; refine (save_op B1.out.st hs 12 ra rb rc imm ha hb hi (by omega)).mono ?_; rintro e w9 ⟨C9, rfl, h9, v9, b9⟩)
    | ((with_reducible show wpList _ _ _ (Oper.mk _ (Op.load _ _) _ _ _ _ :: _) _ _); refine wpList_load_if (by rfl) 37 (.tmp 3) rfl w.heap.size 0 rfl C.toList _ (at_range B1.out.at_) Tryd.underlying37 rfl (st_info B1.out.st).2 ?_)
    | ((with_reducible show wpList _ _ _ (Oper.mk _ (Op.store _ _ _) _ _ _ _ :: _) _ _); refine wpList_store_room (w := w) rfl (.tmp 4) (.tmp 34) rfl (w.heap.size + 1) C9 rfl rfl h9 (there_later B1.out.room b9) ?_))
  have TT := Told.call B1.out b9 h9 v9
  exact bodyPost_ret (v := .agg C9) (results_st rfl _ (w.heap.size + 1) (by first | rfl | simp) TT.st _ TT.at_) rfl TT.post
set_option maxRecDepth 100000 in
theorem step_14 {w : World} {C : Array Value} {s : St} (h : IsSt w (.agg C) s) (hs : Small s) (he : s.en = false) (a : Option Addr) (n c : Nat) (ra rb rc : Nat) (imm : Int) (ha : ra < 16) (hb : rb < 16) (hc : rc < 16) (hi : -1073741824 ≤ imm ∧ imm ≤ 1073741824)
    (hF : ∀ W, Below w.heap.size w W → Calls Tryd.prog 50 #[.slice a n c, .int .i64 s.at_] W fun e w' => e = .returned (.tuple #[.agg #[.int .i64 14, .int .i64 ra, .int .i64 rb, .int .i64 rc, .int .i64 imm], .bool true]) ∧ Below W.heap.size W w') :
    Calls Tryd.prog 46 #[.slice a n c, .agg C] w (StPost w C (opZ 14 ra rb rc imm s)) := by
  have B0 : Hid (Boxed w ((w.alloc (.cells C 37)).alloc (.cells noSt 37)) w.heap.size (w.heap.size + 1) C C s) := Boxed.new h _ _
  clear h
  go_enter Tryd.func46, Tryd.ntmps46
  go_upto_region 1 with fail
  rw [noSt_def]
  generalize (w.alloc (.cells C 37)).alloc (.cells noSt 37) = w0 at B0 ⊢
  have HF : Hid (∀ W, Below w0.heap.size w0 W → Calls Tryd.prog 50 #[.slice a n c, .int .i64 s.at_] W fun e w' => e = .returned (.tuple #[.agg #[.int .i64 14, .int .i64 ra, .int .i64 rb, .int .i64 rc, .int .i64 imm], .bool true]) ∧ Below W.heap.size W w') := fun W hW => hF W (bnext B0.out.bel hW)
  clear hF
  obtain ⟨x0, -, -, x22, -, -⟩ := cell_st B0.out
  rw [he] at x22
  go_upto_region 4 with (go_at_call 50; refine (HF.out _ (Below.refl _ _)).mono ?_; rintro e w1 ⟨rfl, hb1⟩; have HB1 : Hid (Below w0.heap.size w0 w1) := hb1)
  have B1 : Hid (Boxed w (w1.alloc (.cells #[.int .i64 14, .int .i64 ra, .int .i64 rb, .int .i64 rc, .int .i64 imm] 54)) w.heap.size (w.heap.size + 1) C C s) := (B0.out.later HB1.out).later ((Below.refl _ _).alloc (Nat.le_refl _) _)
  have I1 : Hid (InsAt (w1.alloc (.cells #[.int .i64 14, .int .i64 ra, .int .i64 rb, .int .i64 rc, .int .i64 imm] 54)) w1.heap.size 14 ra rb rc imm) := InsAt.new _ _ _ _ _ _ _
  have L1 : Hid (w.heap.size + 1 < w1.heap.size) := by have h1 := B0.out.hb; have h2 := HB1.out.size; have h3 := B0.out.hb.2.2.2.2; show _ < _; omega
  clear x0 x22 hb1 HB1 HF B0
  generalize w1.alloc (.cells #[.int .i64 14, .int .i64 ra, .int .i64 rb, .int .i64 rc, .int .i64 imm] 54) = w2 at B1 I1 ⊢
  obtain ⟨y0, y1, y2, y3, y4⟩ := id I1.out
  go_wp2_with (first
    | (go_at_call 53; refine (save_op B1.out.st hs 14 ra rb rc imm ha hb hi (by omega)).mono ?_; rintro e w9 ⟨C9, rfl, h9, v9, b9⟩)
    | ((with_reducible show wpList _ _ _ (Oper.mk _ (Op.load _ _) _ _ _ _ :: _) _ _); refine wpList_load_if (by rfl) 37 (.tmp 3) rfl w.heap.size 0 rfl C.toList _ (at_range B1.out.at_) Tryd.underlying37 rfl (st_info B1.out.st).2 ?_)
    | ((with_reducible show wpList _ _ _ (Oper.mk _ (Op.store _ _ _) _ _ _ _ :: _) _ _); refine wpList_store_room (w := w) rfl (.tmp 4) (.tmp 34) rfl (w.heap.size + 1) C9 rfl rfl h9 (there_later B1.out.room b9) ?_))
  have TT := Told.call B1.out b9 h9 v9
  exact bodyPost_ret (v := .agg C9) (results_st rfl _ (w.heap.size + 1) (by first | rfl | simp) TT.st _ TT.at_) rfl TT.post
set_option maxRecDepth 100000 in
theorem step_22 {w : World} {C : Array Value} {s : St} (h : IsSt w (.agg C) s) (hs : Small s) (he : s.en = false) (a : Option Addr) (n c : Nat) (ra rb rc : Nat) (imm : Int) (ha : ra < 16) (hb : rb < 16) (hc : rc < 16) (hi : -1073741824 ≤ imm ∧ imm ≤ 1073741824)
    (hF : ∀ W, Below w.heap.size w W → Calls Tryd.prog 50 #[.slice a n c, .int .i64 s.at_] W fun e w' => e = .returned (.tuple #[.agg #[.int .i64 22, .int .i64 ra, .int .i64 rb, .int .i64 rc, .int .i64 imm], .bool true]) ∧ Below W.heap.size W w') :
    Calls Tryd.prog 46 #[.slice a n c, .agg C] w (StPost w C (opZ 22 ra rb rc imm s)) := by
  have B0 : Hid (Boxed w ((w.alloc (.cells C 37)).alloc (.cells noSt 37)) w.heap.size (w.heap.size + 1) C C s) := Boxed.new h _ _
  clear h
  go_enter Tryd.func46, Tryd.ntmps46
  go_upto_region 1 with fail
  rw [noSt_def]
  generalize (w.alloc (.cells C 37)).alloc (.cells noSt 37) = w0 at B0 ⊢
  have HF : Hid (∀ W, Below w0.heap.size w0 W → Calls Tryd.prog 50 #[.slice a n c, .int .i64 s.at_] W fun e w' => e = .returned (.tuple #[.agg #[.int .i64 22, .int .i64 ra, .int .i64 rb, .int .i64 rc, .int .i64 imm], .bool true]) ∧ Below W.heap.size W w') := fun W hW => hF W (bnext B0.out.bel hW)
  clear hF
  obtain ⟨x0, -, -, x22, -, -⟩ := cell_st B0.out
  rw [he] at x22
  go_upto_region 4 with (go_at_call 50; refine (HF.out _ (Below.refl _ _)).mono ?_; rintro e w1 ⟨rfl, hb1⟩; have HB1 : Hid (Below w0.heap.size w0 w1) := hb1)
  have B1 : Hid (Boxed w (w1.alloc (.cells #[.int .i64 22, .int .i64 ra, .int .i64 rb, .int .i64 rc, .int .i64 imm] 54)) w.heap.size (w.heap.size + 1) C C s) := (B0.out.later HB1.out).later ((Below.refl _ _).alloc (Nat.le_refl _) _)
  have I1 : Hid (InsAt (w1.alloc (.cells #[.int .i64 22, .int .i64 ra, .int .i64 rb, .int .i64 rc, .int .i64 imm] 54)) w1.heap.size 22 ra rb rc imm) := InsAt.new _ _ _ _ _ _ _
  have L1 : Hid (w.heap.size + 1 < w1.heap.size) := by have h1 := B0.out.hb; have h2 := HB1.out.size; have h3 := B0.out.hb.2.2.2.2; show _ < _; omega
  clear x0 x22 hb1 HB1 HF B0
  generalize w1.alloc (.cells #[.int .i64 22, .int .i64 ra, .int .i64 rb, .int .i64 rc, .int .i64 imm] 54) = w2 at B1 I1 ⊢
  obtain ⟨y0, y1, y2, y3, y4⟩ := id I1.out
  go_wp2_with (first
    | (go_at_call 54; refine (in_op B1.out.st hs 22 ra rb rc imm ha rfl).mono ?_; rintro e w9 ⟨C9, rfl, h9, v9, b9⟩)
    | ((with_reducible show wpList _ _ _ (Oper.mk _ (Op.load _ _) _ _ _ _ :: _) _ _); refine wpList_load_if (by rfl) 37 (.tmp 3) rfl w.heap.size 0 rfl C.toList _ (at_range B1.out.at_) Tryd.underlying37 rfl (st_info B1.out.st).2 ?_)
    | ((with_reducible show wpList _ _ _ (Oper.mk _ (Op.store _ _ _) _ _ _ _ :: _) _ _); refine wpList_store_room (w := w) rfl (.tmp 4) (.tmp 39) rfl (w.heap.size + 1) C9 rfl rfl h9 (there_later B1.out.room b9) ?_))
  have TT := Told.call B1.out b9 h9 v9
  exact bodyPost_ret (v := .agg C9) (results_st rfl _ (w.heap.size + 1) (by first | rfl | simp) TT.st _ TT.at_) rfl TT.post
set_option maxRecDepth 100000 in
theorem step_23 {w : World} {C : Array Value} {s : St} (h : IsSt w (.agg C) s) (hs : Small s) (he : s.en = false) (a : Option Addr) (n c : Nat) (ra rb rc : Nat) (imm : Int) (ha : ra < 16) (hb : rb < 16) (hc : rc < 16) (hi : -1073741824 ≤ imm ∧ imm ≤ 1073741824)
    (hF : ∀ W, Below w.heap.size w W → Calls Tryd.prog 50 #[.slice a n c, .int .i64 s.at_] W fun e w' => e = .returned (.tuple #[.agg #[.int .i64 23, .int .i64 ra, .int .i64 rb, .int .i64 rc, .int .i64 imm], .bool true]) ∧ Below W.heap.size W w') :
    Calls Tryd.prog 46 #[.slice a n c, .agg C] w (StPost w C (opZ 23 ra rb rc imm s)) := by
  have B0 : Hid (Boxed w ((w.alloc (.cells C 37)).alloc (.cells noSt 37)) w.heap.size (w.heap.size + 1) C C s) := Boxed.new h _ _
  clear h
  go_enter Tryd.func46, Tryd.ntmps46
  go_upto_region 1 with fail
  rw [noSt_def]
  generalize (w.alloc (.cells C 37)).alloc (.cells noSt 37) = w0 at B0 ⊢
  have HF : Hid (∀ W, Below w0.heap.size w0 W → Calls Tryd.prog 50 #[.slice a n c, .int .i64 s.at_] W fun e w' => e = .returned (.tuple #[.agg #[.int .i64 23, .int .i64 ra, .int .i64 rb, .int .i64 rc, .int .i64 imm], .bool true]) ∧ Below W.heap.size W w') := fun W hW => hF W (bnext B0.out.bel hW)
  clear hF
  obtain ⟨x0, -, -, x22, -, -⟩ := cell_st B0.out
  rw [he] at x22
  go_upto_region 4 with (go_at_call 50; refine (HF.out _ (Below.refl _ _)).mono ?_; rintro e w1 ⟨rfl, hb1⟩; have HB1 : Hid (Below w0.heap.size w0 w1) := hb1)
  have B1 : Hid (Boxed w (w1.alloc (.cells #[.int .i64 23, .int .i64 ra, .int .i64 rb, .int .i64 rc, .int .i64 imm] 54)) w.heap.size (w.heap.size + 1) C C s) := (B0.out.later HB1.out).later ((Below.refl _ _).alloc (Nat.le_refl _) _)
  have I1 : Hid (InsAt (w1.alloc (.cells #[.int .i64 23, .int .i64 ra, .int .i64 rb, .int .i64 rc, .int .i64 imm] 54)) w1.heap.size 23 ra rb rc imm) := InsAt.new _ _ _ _ _ _ _
  have L1 : Hid (w.heap.size + 1 < w1.heap.size) := by have h1 := B0.out.hb; have h2 := HB1.out.size; have h3 := B0.out.hb.2.2.2.2; show _ < _; omega
  clear x0 x22 hb1 HB1 HF B0
  generalize w1.alloc (.cells #[.int .i64 23, .int .i64 ra, .int .i64 rb, .int .i64 rc, .int .i64 imm] 54) = w2 at B1 I1 ⊢
  obtain ⟨y0, y1, y2, y3, y4⟩ := id I1.out
  go_wp2_with (first
    | (go_at_call 55; refine (out_op B1.out.st hs 23 ra rb rc imm ha rfl).mono ?_; rintro e w9 ⟨C9, rfl, h9, v9, b9⟩)
    | ((with_reducible show wpList _ _ _ (Oper.mk _ (Op.load _ _) _ _ _ _ :: _) _ _); refine wpList_load_if (by rfl) 37 (.tmp 3) rfl w.heap.size 0 rfl C.toList _ (at_range B1.out.at_) Tryd.underlying37 rfl (st_info B1.out.st).2 ?_)
    | ((with_reducible show wpList _ _ _ (Oper.mk _ (Op.store _ _ _) _ _ _ _ :: _) _ _); refine wpList_store_room (w := w) rfl (.tmp 4) (.tmp 44) rfl (w.heap.size + 1) C9 rfl rfl h9 (there_later B1.out.room b9) ?_))
  have TT := Told.call B1.out b9 h9 v9
  exact bodyPost_ret (v := .agg C9) (results_st rfl _ (w.heap.size + 1) (by first | rfl | simp) TT.st _ TT.at_) rfl TT.post
set_option maxRecDepth 100000 in
theorem step_15 {w : World} {C : Array Value} {s : St} (h : IsSt w (.agg C) s) (hs : Small s) (he : s.en = false) (a : Option Addr) (n c : Nat) (ra rb rc : Nat) (imm : Int) (ha : ra < 16) (hb : rb < 16) (hc : rc < 16) (hi : -1073741824 ≤ imm ∧ imm ≤ 1073741824)
    (hF : ∀ W, Below w.heap.size w W → Calls Tryd.prog 50 #[.slice a n c, .int .i64 s.at_] W fun e w' => e = .returned (.tuple #[.agg #[.int .i64 15, .int .i64 ra, .int .i64 rb, .int .i64 rc, .int .i64 imm], .bool true]) ∧ Below W.heap.size W w') :
    Calls Tryd.prog 46 #[.slice a n c, .agg C] w (StPost w C (opZ 15 ra rb rc imm s)) := by
  have B0 : Hid (Boxed w ((w.alloc (.cells C 37)).alloc (.cells noSt 37)) w.heap.size (w.heap.size + 1) C C s) := Boxed.new h _ _
  clear h
  go_enter Tryd.func46, Tryd.ntmps46
  go_upto_region 1 with fail
  rw [noSt_def]
  generalize (w.alloc (.cells C 37)).alloc (.cells noSt 37) = w0 at B0 ⊢
  have HF : Hid (∀ W, Below w0.heap.size w0 W → Calls Tryd.prog 50 #[.slice a n c, .int .i64 s.at_] W fun e w' => e = .returned (.tuple #[.agg #[.int .i64 15, .int .i64 ra, .int .i64 rb, .int .i64 rc, .int .i64 imm], .bool true]) ∧ Below W.heap.size W w') := fun W hW => hF W (bnext B0.out.bel hW)
  clear hF
  obtain ⟨x0, -, -, x22, -, -⟩ := cell_st B0.out
  rw [he] at x22
  go_upto_region 4 with (go_at_call 50; refine (HF.out _ (Below.refl _ _)).mono ?_; rintro e w1 ⟨rfl, hb1⟩; have HB1 : Hid (Below w0.heap.size w0 w1) := hb1)
  have B1 : Hid (Boxed w (w1.alloc (.cells #[.int .i64 15, .int .i64 ra, .int .i64 rb, .int .i64 rc, .int .i64 imm] 54)) w.heap.size (w.heap.size + 1) C C s) := (B0.out.later HB1.out).later ((Below.refl _ _).alloc (Nat.le_refl _) _)
  have I1 : Hid (InsAt (w1.alloc (.cells #[.int .i64 15, .int .i64 ra, .int .i64 rb, .int .i64 rc, .int .i64 imm] 54)) w1.heap.size 15 ra rb rc imm) := InsAt.new _ _ _ _ _ _ _
  have L1 : Hid (w.heap.size + 1 < w1.heap.size) := by have h1 := B0.out.hb; have h2 := HB1.out.size; have h3 := B0.out.hb.2.2.2.2; show _ < _; omega
  clear x0 x22 hb1 HB1 HF B0
  generalize w1.alloc (.cells #[.int .i64 15, .int .i64 ra, .int .i64 rb, .int .i64 rc, .int .i64 imm] 54) = w2 at B1 I1 ⊢
  obtain ⟨y0, y1, y2, y3, y4⟩ := id I1.out
  go_wp2_with (first
    | (go_at_call 56; refine (branch_op B1.out.st hs 15 ra rb rc imm ha hb hi (by omega)).mono ?_; rintro e w9 ⟨C9, rfl, h9, v9, b9⟩)
    | ((with_reducible show wpList _ _ _ (Oper.mk _ (Op.load _ _) _ _ _ _ :: _) _ _); refine wpList_load_if (by rfl) 37 (.tmp 3) rfl w.heap.size 0 rfl C.toList _ (at_range B1.out.at_) Tryd.underlying37 rfl (st_info B1.out.st).2 ?_)
    | ((with_reducible show wpList _ _ _ (Oper.mk _ (Op.store _ _ _) _ _ _ _ :: _) _ _); refine wpList_store_room (w := w) rfl (.tmp 4) (.tmp 52) rfl (w.heap.size + 1) C9 rfl rfl h9 (there_later B1.out.room b9) ?_))
  have TT := Told.call B1.out b9 h9 v9
  exact bodyPost_ret (v := .agg C9) (results_st rfl _ (w.heap.size + 1) (by first | rfl | simp) TT.st _ TT.at_) rfl TT.post
set_option maxRecDepth 100000 in
theorem step_16 {w : World} {C : Array Value} {s : St} (h : IsSt w (.agg C) s) (hs : Small s) (he : s.en = false) (a : Option Addr) (n c : Nat) (ra rb rc : Nat) (imm : Int) (ha : ra < 16) (hb : rb < 16) (hc : rc < 16) (hi : -1073741824 ≤ imm ∧ imm ≤ 1073741824)
    (hF : ∀ W, Below w.heap.size w W → Calls Tryd.prog 50 #[.slice a n c, .int .i64 s.at_] W fun e w' => e = .returned (.tuple #[.agg #[.int .i64 16, .int .i64 ra, .int .i64 rb, .int .i64 rc, .int .i64 imm], .bool true]) ∧ Below W.heap.size W w') :
    Calls Tryd.prog 46 #[.slice a n c, .agg C] w (StPost w C (opZ 16 ra rb rc imm s)) := by
  have B0 : Hid (Boxed w ((w.alloc (.cells C 37)).alloc (.cells noSt 37)) w.heap.size (w.heap.size + 1) C C s) := Boxed.new h _ _
  clear h
  go_enter Tryd.func46, Tryd.ntmps46
  go_upto_region 1 with fail
  rw [noSt_def]
  generalize (w.alloc (.cells C 37)).alloc (.cells noSt 37) = w0 at B0 ⊢
  have HF : Hid (∀ W, Below w0.heap.size w0 W → Calls Tryd.prog 50 #[.slice a n c, .int .i64 s.at_] W fun e w' => e = .returned (.tuple #[.agg #[.int .i64 16, .int .i64 ra, .int .i64 rb, .int .i64 rc, .int .i64 imm], .bool true]) ∧ Below W.heap.size W w') := fun W hW => hF W (bnext B0.out.bel hW)
  clear hF
  obtain ⟨x0, -, -, x22, -, -⟩ := cell_st B0.out
  rw [he] at x22
  go_upto_region 4 with (go_at_call 50; refine (HF.out _ (Below.refl _ _)).mono ?_; rintro e w1 ⟨rfl, hb1⟩; have HB1 : Hid (Below w0.heap.size w0 w1) := hb1)
  have B1 : Hid (Boxed w (w1.alloc (.cells #[.int .i64 16, .int .i64 ra, .int .i64 rb, .int .i64 rc, .int .i64 imm] 54)) w.heap.size (w.heap.size + 1) C C s) := (B0.out.later HB1.out).later ((Below.refl _ _).alloc (Nat.le_refl _) _)
  have I1 : Hid (InsAt (w1.alloc (.cells #[.int .i64 16, .int .i64 ra, .int .i64 rb, .int .i64 rc, .int .i64 imm] 54)) w1.heap.size 16 ra rb rc imm) := InsAt.new _ _ _ _ _ _ _
  have L1 : Hid (w.heap.size + 1 < w1.heap.size) := by have h1 := B0.out.hb; have h2 := HB1.out.size; have h3 := B0.out.hb.2.2.2.2; show _ < _; omega
  clear x0 x22 hb1 HB1 HF B0
  generalize w1.alloc (.cells #[.int .i64 16, .int .i64 ra, .int .i64 rb, .int .i64 rc, .int .i64 imm] 54) = w2 at B1 I1 ⊢
  obtain ⟨y0, y1, y2, y3, y4⟩ := id I1.out
  go_wp2_with (first
    | (go_at_call 56; refine (branch_op B1.out.st hs 16 ra rb rc imm ha hb hi (by omega)).mono ?_; rintro e w9 ⟨C9, rfl, h9, v9, b9⟩)
    | ((with_reducible show wpList _ _ _ (Oper.mk _ (Op.load _ _) _ _ _ _ :: _) _ _); refine wpList_load_if (by rfl) 37 (.tmp 3) rfl w.heap.size 0 rfl C.toList _ (at_range B1.out.at_) Tryd.underlying37 rfl (st_info B1.out.st).2 ?_)
    | ((with_reducible show wpList _ _ _ (Oper.mk _ (Op.store _ _ _) _ _ _ _ :: _) _ _); refine wpList_store_room (w := w) rfl (.tmp 4) (.tmp 52) rfl (w.heap.size + 1) C9 rfl rfl h9 (there_later B1.out.room b9) ?_))
  have TT := Told.call B1.out b9 h9 v9
  exact bodyPost_ret (v := .agg C9) (results_st rfl _ (w.heap.size + 1) (by first | rfl | simp) TT.st _ TT.at_) rfl TT.post
open Go.ChangeShapes Go.WideShapes Go.ChangeAt Go.RowKit
set_option linter.unusedVariables false
set_option linter.unusedSimpArgs false
set_option maxRecDepth 100000 in
theorem step_17 {w : World} {C : Array Value} {s : St} (h : IsSt w (.agg C) s) (hs : Small s) (he : s.en = false) (a : Option Addr) (n c : Nat) (ra rb rc : Nat) (imm : Int) (ha : ra < 16) (hb : rb < 16) (hc : rc < 16) (hi : -1073741824 ≤ imm ∧ imm ≤ 1073741824)
    (hF : ∀ W, Below w.heap.size w W → Calls Tryd.prog 50 #[.slice a n c, .int .i64 s.at_] W fun e w' => e = .returned (.tuple #[.agg #[.int .i64 17, .int .i64 ra, .int .i64 rb, .int .i64 rc, .int .i64 imm], .bool true]) ∧ Below W.heap.size W w') :
    Calls Tryd.prog 46 #[.slice a n c, .agg C] w (StPost w C (opZ 17 ra rb rc imm s)) := by
  have B0 : Hid (Boxed w ((w.alloc (.cells C 37)).alloc (.cells noSt 37)) w.heap.size (w.heap.size + 1) C C s) := Boxed.new h _ _
  clear h
  go_enter Tryd.func46, Tryd.ntmps46
  go_upto_region 1 with fail
  rw [noSt_def]
  generalize (w.alloc (.cells C 37)).alloc (.cells noSt 37) = w0 at B0 ⊢
  have HF : Hid (∀ W, Below w0.heap.size w0 W → Calls Tryd.prog 50 #[.slice a n c, .int .i64 s.at_] W fun e w' => e = .returned (.tuple #[.agg #[.int .i64 17, .int .i64 ra, .int .i64 rb, .int .i64 rc, .int .i64 imm], .bool true]) ∧ Below W.heap.size W w') := fun W hW => hF W (bnext B0.out.bel hW)
  clear hF
  obtain ⟨x0, -, -, x22, -, -⟩ := cell_st B0.out
  rw [he] at x22
  go_upto_region 4 with (go_at_call 50; refine (HF.out _ (Below.refl _ _)).mono ?_; rintro e w1 ⟨rfl, hb1⟩; have HB1 : Hid (Below w0.heap.size w0 w1) := hb1)
  have B1 : Hid (Boxed w (w1.alloc (.cells #[.int .i64 17, .int .i64 ra, .int .i64 rb, .int .i64 rc, .int .i64 imm] 54)) w.heap.size (w.heap.size + 1) C C s) := (B0.out.later HB1.out).later ((Below.refl _ _).alloc (Nat.le_refl _) _)
  have I1 : Hid (InsAt (w1.alloc (.cells #[.int .i64 17, .int .i64 ra, .int .i64 rb, .int .i64 rc, .int .i64 imm] 54)) w1.heap.size 17 ra rb rc imm) := InsAt.new _ _ _ _ _ _ _
  have L1 : Hid (w.heap.size + 1 < w1.heap.size) := by have h1 := B0.out.hb; have h2 := HB1.out.size; have h3 := B0.out.hb.2.2.2.2; show _ < _; omega
  clear x0 x22 hb1 HB1 HF B0
  generalize w1.alloc (.cells #[.int .i64 17, .int .i64 ra, .int .i64 rb, .int .i64 rc, .int .i64 imm] 54) = w2 at B1 I1 ⊢
  obtain ⟨y0, y1, y2, y3, y4⟩ := id I1.out
  go_wp2_with (first
    | (go_at_call 56; refine (branch_op B1.out.st hs 17 ra rb rc imm ha hb hi (by omega)).mono ?_; rintro e w9 ⟨C9, rfl, h9, v9, b9⟩)
    | ((with_reducible show wpList _ _ _ (Oper.mk _ (Op.load _ _) _ _ _ _ :: _) _ _); refine wpList_load_if (by rfl) 37 (.tmp 3) rfl w.heap.size 0 rfl C.toList _ (at_range B1.out.at_) Tryd.underlying37 rfl (st_info B1.out.st).2 ?_)
    | ((with_reducible show wpList _ _ _ (Oper.mk _ (Op.store _ _ _) _ _ _ _ :: _) _ _); refine wpList_store_room (w := w) rfl (.tmp 4) (.tmp 52) rfl (w.heap.size + 1) C9 rfl rfl h9 (there_later B1.out.room b9) ?_))
  have TT := Told.call B1.out b9 h9 v9
  exact bodyPost_ret (v := .agg C9) (results_st rfl _ (w.heap.size + 1) (by first | rfl | simp) TT.st _ TT.at_) rfl TT.post
set_option maxRecDepth 100000 in
theorem step_18 {w : World} {C : Array Value} {s : St} (h : IsSt w (.agg C) s) (hs : Small s) (he : s.en = false) (a : Option Addr) (n c : Nat) (ra rb rc : Nat) (imm : Int) (ha : ra < 16) (hb : rb < 16) (hc : rc < 16) (hi : -1073741824 ≤ imm ∧ imm ≤ 1073741824)
    (hF : ∀ W, Below w.heap.size w W → Calls Tryd.prog 50 #[.slice a n c, .int .i64 s.at_] W fun e w' => e = .returned (.tuple #[.agg #[.int .i64 18, .int .i64 ra, .int .i64 rb, .int .i64 rc, .int .i64 imm], .bool true]) ∧ Below W.heap.size W w') :
    Calls Tryd.prog 46 #[.slice a n c, .agg C] w (StPost w C (opZ 18 ra rb rc imm s)) := by
  have B0 : Hid (Boxed w ((w.alloc (.cells C 37)).alloc (.cells noSt 37)) w.heap.size (w.heap.size + 1) C C s) := Boxed.new h _ _
  clear h
  go_enter Tryd.func46, Tryd.ntmps46
  go_upto_region 1 with fail
  rw [noSt_def]
  generalize (w.alloc (.cells C 37)).alloc (.cells noSt 37) = w0 at B0 ⊢
  have HF : Hid (∀ W, Below w0.heap.size w0 W → Calls Tryd.prog 50 #[.slice a n c, .int .i64 s.at_] W fun e w' => e = .returned (.tuple #[.agg #[.int .i64 18, .int .i64 ra, .int .i64 rb, .int .i64 rc, .int .i64 imm], .bool true]) ∧ Below W.heap.size W w') := fun W hW => hF W (bnext B0.out.bel hW)
  clear hF
  obtain ⟨x0, -, -, x22, -, -⟩ := cell_st B0.out
  rw [he] at x22
  go_upto_region 4 with (go_at_call 50; refine (HF.out _ (Below.refl _ _)).mono ?_; rintro e w1 ⟨rfl, hb1⟩; have HB1 : Hid (Below w0.heap.size w0 w1) := hb1)
  have B1 : Hid (Boxed w (w1.alloc (.cells #[.int .i64 18, .int .i64 ra, .int .i64 rb, .int .i64 rc, .int .i64 imm] 54)) w.heap.size (w.heap.size + 1) C C s) := (B0.out.later HB1.out).later ((Below.refl _ _).alloc (Nat.le_refl _) _)
  have I1 : Hid (InsAt (w1.alloc (.cells #[.int .i64 18, .int .i64 ra, .int .i64 rb, .int .i64 rc, .int .i64 imm] 54)) w1.heap.size 18 ra rb rc imm) := InsAt.new _ _ _ _ _ _ _
  have L1 : Hid (w.heap.size + 1 < w1.heap.size) := by have h1 := B0.out.hb; have h2 := HB1.out.size; have h3 := B0.out.hb.2.2.2.2; show _ < _; omega
  clear x0 x22 hb1 HB1 HF B0
  generalize w1.alloc (.cells #[.int .i64 18, .int .i64 ra, .int .i64 rb, .int .i64 rc, .int .i64 imm] 54) = w2 at B1 I1 ⊢
  obtain ⟨y0, y1, y2, y3, y4⟩ := id I1.out
  go_wp2_with (first
    | (go_at_call 56; refine (branch_op B1.out.st hs 18 ra rb rc imm ha hb hi (by omega)).mono ?_; rintro e w9 ⟨C9, rfl, h9, v9, b9⟩)
    | ((with_reducible show wpList _ _ _ (Oper.mk _ (Op.load _ _) _ _ _ _ :: _) _ _); refine wpList_load_if (by rfl) 37 (.tmp 3) rfl w.heap.size 0 rfl C.toList _ (at_range B1.out.at_) Tryd.underlying37 rfl (st_info B1.out.st).2 ?_)
    | ((with_reducible show wpList _ _ _ (Oper.mk _ (Op.store _ _ _) _ _ _ _ :: _) _ _); refine wpList_store_room (w := w) rfl (.tmp 4) (.tmp 52) rfl (w.heap.size + 1) C9 rfl rfl h9 (there_later B1.out.room b9) ?_))
  have TT := Told.call B1.out b9 h9 v9
  exact bodyPost_ret (v := .agg C9) (results_st rfl _ (w.heap.size + 1) (by first | rfl | simp) TT.st _ TT.at_) rfl TT.post
set_option maxRecDepth 100000 in
theorem step_19 {w : World} {C : Array Value} {s : St} (h : IsSt w (.agg C) s) (hs : Small s) (he : s.en = false) (a : Option Addr) (n c : Nat) (ra rb rc : Nat) (imm : Int) (ha : ra < 16) (hb : rb < 16) (hc : rc < 16) (hi : -1073741824 ≤ imm ∧ imm ≤ 1073741824)
    (hF : ∀ W, Below w.heap.size w W → Calls Tryd.prog 50 #[.slice a n c, .int .i64 s.at_] W fun e w' => e = .returned (.tuple #[.agg #[.int .i64 19, .int .i64 ra, .int .i64 rb, .int .i64 rc, .int .i64 imm], .bool true]) ∧ Below W.heap.size W w') :
    Calls Tryd.prog 46 #[.slice a n c, .agg C] w (StPost w C (opZ 19 ra rb rc imm s)) := by
  have B0 : Hid (Boxed w ((w.alloc (.cells C 37)).alloc (.cells noSt 37)) w.heap.size (w.heap.size + 1) C C s) := Boxed.new h _ _
  clear h
  go_enter Tryd.func46, Tryd.ntmps46
  go_upto_region 1 with fail
  rw [noSt_def]
  generalize (w.alloc (.cells C 37)).alloc (.cells noSt 37) = w0 at B0 ⊢
  have HF : Hid (∀ W, Below w0.heap.size w0 W → Calls Tryd.prog 50 #[.slice a n c, .int .i64 s.at_] W fun e w' => e = .returned (.tuple #[.agg #[.int .i64 19, .int .i64 ra, .int .i64 rb, .int .i64 rc, .int .i64 imm], .bool true]) ∧ Below W.heap.size W w') := fun W hW => hF W (bnext B0.out.bel hW)
  clear hF
  obtain ⟨x0, -, -, x22, -, -⟩ := cell_st B0.out
  rw [he] at x22
  go_upto_region 4 with (go_at_call 50; refine (HF.out _ (Below.refl _ _)).mono ?_; rintro e w1 ⟨rfl, hb1⟩; have HB1 : Hid (Below w0.heap.size w0 w1) := hb1)
  have B1 : Hid (Boxed w (w1.alloc (.cells #[.int .i64 19, .int .i64 ra, .int .i64 rb, .int .i64 rc, .int .i64 imm] 54)) w.heap.size (w.heap.size + 1) C C s) := (B0.out.later HB1.out).later ((Below.refl _ _).alloc (Nat.le_refl _) _)
  have I1 : Hid (InsAt (w1.alloc (.cells #[.int .i64 19, .int .i64 ra, .int .i64 rb, .int .i64 rc, .int .i64 imm] 54)) w1.heap.size 19 ra rb rc imm) := InsAt.new _ _ _ _ _ _ _
  have L1 : Hid (w.heap.size + 1 < w1.heap.size) := by have h1 := B0.out.hb; have h2 := HB1.out.size; have h3 := B0.out.hb.2.2.2.2; show _ < _; omega
  clear x0 x22 hb1 HB1 HF B0
  generalize w1.alloc (.cells #[.int .i64 19, .int .i64 ra, .int .i64 rb, .int .i64 rc, .int .i64 imm] 54) = w2 at B1 I1 ⊢
  obtain ⟨y0, y1, y2, y3, y4⟩ := id I1.out
  go_wp2_with (first
    | (go_at_call 57; refine (jump_op B1.out.st hs 19 ra rb rc imm hi rfl).mono ?_; rintro e w9 ⟨C9, rfl, h9, v9, b9⟩)
    | ((with_reducible show wpList _ _ _ (Oper.mk _ (Op.load _ _) _ _ _ _ :: _) _ _); refine wpList_load_if (by rfl) 37 (.tmp 3) rfl w.heap.size 0 rfl C.toList _ (at_range B1.out.at_) Tryd.underlying37 rfl (st_info B1.out.st).2 ?_)
    | ((with_reducible show wpList _ _ _ (Oper.mk _ (Op.store _ _ _) _ _ _ _ :: _) _ _); refine wpList_store_room (w := w) rfl (.tmp 4) (.tmp 58) rfl (w.heap.size + 1) C9 rfl rfl h9 (there_later B1.out.room b9) ?_))
  have TT := Told.call B1.out b9 h9 v9
  exact bodyPost_ret (v := .agg C9) (results_st rfl _ (w.heap.size + 1) (by first | rfl | simp) TT.st _ TT.at_) rfl TT.post
set_option maxRecDepth 100000 in
theorem step_20 {w : World} {C : Array Value} {s : St} (h : IsSt w (.agg C) s) (hs : Small s) (he : s.en = false) (a : Option Addr) (n c : Nat) (ra rb rc : Nat) (imm : Int) (ha : ra < 16) (hb : rb < 16) (hc : rc < 16) (hi : -1073741824 ≤ imm ∧ imm ≤ 1073741824)
    (hF : ∀ W, Below w.heap.size w W → Calls Tryd.prog 50 #[.slice a n c, .int .i64 s.at_] W fun e w' => e = .returned (.tuple #[.agg #[.int .i64 20, .int .i64 ra, .int .i64 rb, .int .i64 rc, .int .i64 imm], .bool true]) ∧ Below W.heap.size W w') :
    Calls Tryd.prog 46 #[.slice a n c, .agg C] w (StPost w C (opZ 20 ra rb rc imm s)) := by
  have B0 : Hid (Boxed w ((w.alloc (.cells C 37)).alloc (.cells noSt 37)) w.heap.size (w.heap.size + 1) C C s) := Boxed.new h _ _
  clear h
  go_enter Tryd.func46, Tryd.ntmps46
  go_upto_region 1 with fail
  rw [noSt_def]
  generalize (w.alloc (.cells C 37)).alloc (.cells noSt 37) = w0 at B0 ⊢
  have HF : Hid (∀ W, Below w0.heap.size w0 W → Calls Tryd.prog 50 #[.slice a n c, .int .i64 s.at_] W fun e w' => e = .returned (.tuple #[.agg #[.int .i64 20, .int .i64 ra, .int .i64 rb, .int .i64 rc, .int .i64 imm], .bool true]) ∧ Below W.heap.size W w') := fun W hW => hF W (bnext B0.out.bel hW)
  clear hF
  obtain ⟨x0, -, -, x22, -, -⟩ := cell_st B0.out
  rw [he] at x22
  go_upto_region 4 with (go_at_call 50; refine (HF.out _ (Below.refl _ _)).mono ?_; rintro e w1 ⟨rfl, hb1⟩; have HB1 : Hid (Below w0.heap.size w0 w1) := hb1)
  have B1 : Hid (Boxed w (w1.alloc (.cells #[.int .i64 20, .int .i64 ra, .int .i64 rb, .int .i64 rc, .int .i64 imm] 54)) w.heap.size (w.heap.size + 1) C C s) := (B0.out.later HB1.out).later ((Below.refl _ _).alloc (Nat.le_refl _) _)
  have I1 : Hid (InsAt (w1.alloc (.cells #[.int .i64 20, .int .i64 ra, .int .i64 rb, .int .i64 rc, .int .i64 imm] 54)) w1.heap.size 20 ra rb rc imm) := InsAt.new _ _ _ _ _ _ _
  have L1 : Hid (w.heap.size + 1 < w1.heap.size) := by have h1 := B0.out.hb; have h2 := HB1.out.size; have h3 := B0.out.hb.2.2.2.2; show _ < _; omega
  clear x0 x22 hb1 HB1 HF B0
  generalize w1.alloc (.cells #[.int .i64 20, .int .i64 ra, .int .i64 rb, .int .i64 rc, .int .i64 imm] 54) = w2 at B1 I1 ⊢
  obtain ⟨y0, y1, y2, y3, y4⟩ := id I1.out
  go_wp2_with (first
    | (go_at_call 58; refine (call_op B1.out.st hs 20 ra rb rc imm hi rfl).mono ?_; rintro e w9 ⟨C9, rfl, h9, v9, b9⟩)
    | ((with_reducible show wpList _ _ _ (Oper.mk _ (Op.load _ _) _ _ _ _ :: _) _ _); refine wpList_load_if (by rfl) 37 (.tmp 3) rfl w.heap.size 0 rfl C.toList _ (at_range B1.out.at_) Tryd.underlying37 rfl (st_info B1.out.st).2 ?_)
    | ((with_reducible show wpList _ _ _ (Oper.mk _ (Op.store _ _ _) _ _ _ _ :: _) _ _); refine wpList_store_room (w := w) rfl (.tmp 4) (.tmp 63) rfl (w.heap.size + 1) C9 rfl rfl h9 (there_later B1.out.room b9) ?_))
  have TT := Told.call B1.out b9 h9 v9
  exact bodyPost_ret (v := .agg C9) (results_st rfl _ (w.heap.size + 1) (by first | rfl | simp) TT.st _ TT.at_) rfl TT.post
set_option maxRecDepth 100000 in
theorem step_21 {w : World} {C : Array Value} {s : St} (h : IsSt w (.agg C) s) (hs : Small s) (he : s.en = false) (a : Option Addr) (n c : Nat) (ra rb rc : Nat) (imm : Int) (ha : ra < 16) (hb : rb < 16) (hc : rc < 16) (hi : -1073741824 ≤ imm ∧ imm ≤ 1073741824)
    (hF : ∀ W, Below w.heap.size w W → Calls Tryd.prog 50 #[.slice a n c, .int .i64 s.at_] W fun e w' => e = .returned (.tuple #[.agg #[.int .i64 21, .int .i64 ra, .int .i64 rb, .int .i64 rc, .int .i64 imm], .bool true]) ∧ Below W.heap.size W w') :
    Calls Tryd.prog 46 #[.slice a n c, .agg C] w (StPost w C (opZ 21 ra rb rc imm s)) := by
  have B0 : Hid (Boxed w ((w.alloc (.cells C 37)).alloc (.cells noSt 37)) w.heap.size (w.heap.size + 1) C C s) := Boxed.new h _ _
  clear h
  go_enter Tryd.func46, Tryd.ntmps46
  go_upto_region 1 with fail
  rw [noSt_def]
  generalize (w.alloc (.cells C 37)).alloc (.cells noSt 37) = w0 at B0 ⊢
  have HF : Hid (∀ W, Below w0.heap.size w0 W → Calls Tryd.prog 50 #[.slice a n c, .int .i64 s.at_] W fun e w' => e = .returned (.tuple #[.agg #[.int .i64 21, .int .i64 ra, .int .i64 rb, .int .i64 rc, .int .i64 imm], .bool true]) ∧ Below W.heap.size W w') := fun W hW => hF W (bnext B0.out.bel hW)
  clear hF
  obtain ⟨x0, -, -, x22, -, -⟩ := cell_st B0.out
  rw [he] at x22
  go_upto_region 4 with (go_at_call 50; refine (HF.out _ (Below.refl _ _)).mono ?_; rintro e w1 ⟨rfl, hb1⟩; have HB1 : Hid (Below w0.heap.size w0 w1) := hb1)
  have B1 : Hid (Boxed w (w1.alloc (.cells #[.int .i64 21, .int .i64 ra, .int .i64 rb, .int .i64 rc, .int .i64 imm] 54)) w.heap.size (w.heap.size + 1) C C s) := (B0.out.later HB1.out).later ((Below.refl _ _).alloc (Nat.le_refl _) _)
  have I1 : Hid (InsAt (w1.alloc (.cells #[.int .i64 21, .int .i64 ra, .int .i64 rb, .int .i64 rc, .int .i64 imm] 54)) w1.heap.size 21 ra rb rc imm) := InsAt.new _ _ _ _ _ _ _
  have L1 : Hid (w.heap.size + 1 < w1.heap.size) := by have h1 := B0.out.hb; have h2 := HB1.out.size; have h3 := B0.out.hb.2.2.2.2; show _ < _; omega
  clear x0 x22 hb1 HB1 HF B0
  generalize w1.alloc (.cells #[.int .i64 21, .int .i64 ra, .int .i64 rb, .int .i64 rc, .int .i64 imm] 54) = w2 at B1 I1 ⊢
  obtain ⟨y0, y1, y2, y3, y4⟩ := id I1.out
  go_wp2_with (first
    | (go_at_call 59; refine (ret_op B1.out.st hs 21 ra rb rc imm rfl).mono ?_; rintro e w9 ⟨C9, rfl, h9, v9, b9⟩)
    | ((with_reducible show wpList _ _ _ (Oper.mk _ (Op.load _ _) _ _ _ _ :: _) _ _); refine wpList_load_if (by rfl) 37 (.tmp 3) rfl w.heap.size 0 rfl C.toList _ (at_range B1.out.at_) Tryd.underlying37 rfl (st_info B1.out.st).2 ?_)
    | ((with_reducible show wpList _ _ _ (Oper.mk _ (Op.store _ _ _) _ _ _ _ :: _) _ _); refine wpList_store_room (w := w) rfl (.tmp 4) (.tmp 67) rfl (w.heap.size + 1) C9 rfl rfl h9 (there_later B1.out.room b9) ?_))
  have TT := Told.call B1.out b9 h9 v9
  exact bodyPost_ret (v := .agg C9) (results_st rfl _ (w.heap.size + 1) (by first | rfl | simp) TT.st _ TT.at_) rfl TT.post
set_option maxRecDepth 100000 in
theorem step_0 {w : World} {C : Array Value} {s : St} (h : IsSt w (.agg C) s) (hs : Small s) (he : s.en = false) (a : Option Addr) (n c : Nat) (ra rb rc : Nat) (imm : Int) (ha : ra < 16) (hb : rb < 16) (hc : rc < 16) (hi : -1073741824 ≤ imm ∧ imm ≤ 1073741824)
    (hF : ∀ W, Below w.heap.size w W → Calls Tryd.prog 50 #[.slice a n c, .int .i64 s.at_] W fun e w' => e = .returned (.tuple #[.agg #[.int .i64 0, .int .i64 ra, .int .i64 rb, .int .i64 rc, .int .i64 imm], .bool true]) ∧ Below W.heap.size W w') :
    Calls Tryd.prog 46 #[.slice a n c, .agg C] w (StPost w C (opZ 0 ra rb rc imm s)) := by
  have B0 : Hid (Boxed w ((w.alloc (.cells C 37)).alloc (.cells noSt 37)) w.heap.size (w.heap.size + 1) C C s) := Boxed.new h _ _
  clear h
  go_enter Tryd.func46, Tryd.ntmps46
  go_upto_region 1 with fail
  rw [noSt_def]
  generalize (w.alloc (.cells C 37)).alloc (.cells noSt 37) = w0 at B0 ⊢
  have HF : Hid (∀ W, Below w0.heap.size w0 W → Calls Tryd.prog 50 #[.slice a n c, .int .i64 s.at_] W fun e w' => e = .returned (.tuple #[.agg #[.int .i64 0, .int .i64 ra, .int .i64 rb, .int .i64 rc, .int .i64 imm], .bool true]) ∧ Below W.heap.size W w') := fun W hW => hF W (bnext B0.out.bel hW)
  clear hF
  obtain ⟨x0, -, -, x22, -, -⟩ := cell_st B0.out
  rw [he] at x22
  go_upto_region 4 with (go_at_call 50; refine (HF.out _ (Below.refl _ _)).mono ?_; rintro e w1 ⟨rfl, hb1⟩; have HB1 : Hid (Below w0.heap.size w0 w1) := hb1)
  have B1 : Hid (Boxed w (w1.alloc (.cells #[.int .i64 0, .int .i64 ra, .int .i64 rb, .int .i64 rc, .int .i64 imm] 54)) w.heap.size (w.heap.size + 1) C C s) := (B0.out.later HB1.out).later ((Below.refl _ _).alloc (Nat.le_refl _) _)
  have I1 : Hid (InsAt (w1.alloc (.cells #[.int .i64 0, .int .i64 ra, .int .i64 rb, .int .i64 rc, .int .i64 imm] 54)) w1.heap.size 0 ra rb rc imm) := InsAt.new _ _ _ _ _ _ _
  have L1 : Hid (w.heap.size + 1 < w1.heap.size) := by have h1 := B0.out.hb; have h2 := HB1.out.size; have h3 := B0.out.hb.2.2.2.2; show _ < _; omega
  clear x0 x22 hb1 HB1 HF B0
  generalize w1.alloc (.cells #[.int .i64 0, .int .i64 ra, .int .i64 rb, .int .i64 rc, .int .i64 imm] 54) = w2 at B1 I1 ⊢
  obtain ⟨y0, y1, y2, y3, y4⟩ := id I1.out
  go_wp2_with (first
    | (go_at_call 60; refine (halt_op B1.out.st 0 ra rb rc imm ha rfl).mono ?_; rintro e w9 ⟨C9, rfl, h9, v9, b9⟩)
    | ((with_reducible show wpList _ _ _ (Oper.mk _ (Op.load _ _) _ _ _ _ :: _) _ _); refine wpList_load_if (by rfl) 37 (.tmp 3) rfl w.heap.size 0 rfl C.toList _ (at_range B1.out.at_) Tryd.underlying37 rfl (st_info B1.out.st).2 ?_)
    | ((with_reducible show wpList _ _ _ (Oper.mk _ (Op.store _ _ _) _ _ _ _ :: _) _ _); refine wpList_store_room (w := w) rfl (.tmp 4) (.tmp 72) rfl (w.heap.size + 1) C9 rfl rfl h9 (there_later B1.out.room b9) ?_))
  have TT := Told.call B1.out b9 h9 v9
  exact bodyPost_ret (v := .agg C9) (results_st rfl _ (w.heap.size + 1) (by first | rfl | simp) TT.st _ TT.at_) rfl TT.post
set_option maxRecDepth 100000 in
theorem step_25 {w : World} {C : Array Value} {s : St} (h : IsSt w (.agg C) s) (hs : Small s) (he : s.en = false) (a : Option Addr) (n c : Nat) (ra rb rc : Nat) (imm : Int) (ha : ra < 16) (hb : rb < 16) (hc : rc < 16) (hi : -1073741824 ≤ imm ∧ imm ≤ 1073741824)
    (hF : ∀ W, Below w.heap.size w W → Calls Tryd.prog 50 #[.slice a n c, .int .i64 s.at_] W fun e w' => e = .returned (.tuple #[.agg #[.int .i64 25, .int .i64 ra, .int .i64 rb, .int .i64 rc, .int .i64 imm], .bool true]) ∧ Below W.heap.size W w') :
    Calls Tryd.prog 46 #[.slice a n c, .agg C] w (StPost w C (opZ 25 ra rb rc imm s)) := by
  have B0 : Hid (Boxed w ((w.alloc (.cells C 37)).alloc (.cells noSt 37)) w.heap.size (w.heap.size + 1) C C s) := Boxed.new h _ _
  clear h
  go_enter Tryd.func46, Tryd.ntmps46
  go_upto_region 1 with fail
  rw [noSt_def]
  generalize (w.alloc (.cells C 37)).alloc (.cells noSt 37) = w0 at B0 ⊢
  have HF : Hid (∀ W, Below w0.heap.size w0 W → Calls Tryd.prog 50 #[.slice a n c, .int .i64 s.at_] W fun e w' => e = .returned (.tuple #[.agg #[.int .i64 25, .int .i64 ra, .int .i64 rb, .int .i64 rc, .int .i64 imm], .bool true]) ∧ Below W.heap.size W w') := fun W hW => hF W (bnext B0.out.bel hW)
  clear hF
  obtain ⟨x0, -, -, x22, -, -⟩ := cell_st B0.out
  rw [he] at x22
  go_upto_region 4 with (go_at_call 50; refine (HF.out _ (Below.refl _ _)).mono ?_; rintro e w1 ⟨rfl, hb1⟩; have HB1 : Hid (Below w0.heap.size w0 w1) := hb1)
  have B1 : Hid (Boxed w (w1.alloc (.cells #[.int .i64 25, .int .i64 ra, .int .i64 rb, .int .i64 rc, .int .i64 imm] 54)) w.heap.size (w.heap.size + 1) C C s) := (B0.out.later HB1.out).later ((Below.refl _ _).alloc (Nat.le_refl _) _)
  have I1 : Hid (InsAt (w1.alloc (.cells #[.int .i64 25, .int .i64 ra, .int .i64 rb, .int .i64 rc, .int .i64 imm] 54)) w1.heap.size 25 ra rb rc imm) := InsAt.new _ _ _ _ _ _ _
  have L1 : Hid (w.heap.size + 1 < w1.heap.size) := by have h1 := B0.out.hb; have h2 := HB1.out.size; have h3 := B0.out.hb.2.2.2.2; show _ < _; omega
  clear x0 x22 hb1 HB1 HF B0
  generalize w1.alloc (.cells #[.int .i64 25, .int .i64 ra, .int .i64 rb, .int .i64 rc, .int .i64 imm] 54) = w2 at B1 I1 ⊢
  obtain ⟨y0, y1, y2, y3, y4⟩ := id I1.out
  go_wp2_with (first
    | (go_at_call 51; refine (trap_op B1.out.st 25 ra rb rc imm rfl).mono ?_; rintro e w9 ⟨C9, rfl, h9, v9, b9⟩)
    | ((with_reducible show wpList _ _ _ (Oper.mk _ (Op.load _ _) _ _ _ _ :: _) _ _); refine wpList_load_if (by rfl) 37 (.tmp 3) rfl w.heap.size 0 rfl C.toList _ (at_range B1.out.at_) Tryd.underlying37 rfl (st_info B1.out.st).2 ?_)
    | ((with_reducible show wpList _ _ _ (Oper.mk _ (Op.store _ _ _) _ _ _ _ :: _) _ _); refine wpList_store_room (w := w) rfl (.tmp 4) (.tmp 76) rfl (w.heap.size + 1) C9 rfl rfl h9 (there_later B1.out.room b9) ?_))
  have TT := Told.call B1.out b9 h9 v9
  exact bodyPost_ret (v := .agg C9) (results_st rfl _ (w.heap.size + 1) (by first | rfl | simp) TT.st _ TT.at_) rfl TT.post
open Go.ChangeShapes Go.WideShapes Go.ChangeAt Go.RowKit
set_option linter.unusedVariables false
set_option linter.unusedSimpArgs false
set_option maxRecDepth 100000 in
set_option maxHeartbeats 1000000 in
theorem step_pure {w : World} {C : Array Value} {s : St} (h : IsSt w (.agg C) s) (hs : Small s) (he : s.en = false) (a : Option Addr) (n c : Nat) (o : Int) (ho : 1 ≤ o ∧ o ≤ 10 ∨ o = 24) (ra rb rc : Nat) (imm : Int) (ha : ra < 16) (hb : rb < 16) (hc : rc < 16) (hi : 8 ≤ o ∧ o ≤ 10 → -32768 ≤ imm ∧ imm ≤ 65535) (hj : o = 10 → 0 ≤ imm)
    (hF : ∀ W, Below w.heap.size w W → Calls Tryd.prog 50 #[.slice a n c, .int .i64 s.at_] W fun e w' => e = .returned (.tuple #[.agg #[.int .i64 o, .int .i64 ra, .int .i64 rb, .int .i64 rc, .int .i64 imm], .bool true]) ∧ Below W.heap.size W w') :
    Calls Tryd.prog 46 #[.slice a n c, .agg C] w (StPost w C (opZ o ra rb rc imm s)) := by
  have t11 : (o == 11) = false := by simp; omega
  have e11 : ¬ o = 11 := by omega
  have t13 : (o == 13) = false := by simp; omega
  have e13 : ¬ o = 13 := by omega
  have t12 : (o == 12) = false := by simp; omega
  have e12 : ¬ o = 12 := by omega
  have t14 : (o == 14) = false := by simp; omega
  have e14 : ¬ o = 14 := by omega
  have t22 : (o == 22) = false := by simp; omega
  have e22 : ¬ o = 22 := by omega
  have t23 : (o == 23) = false := by simp; omega
  have e23 : ¬ o = 23 := by omega
  have t15 : (o == 15) = false := by simp; omega
  have e15 : ¬ o = 15 := by omega
  have t16 : (o == 16) = false := by simp; omega
  have e16 : ¬ o = 16 := by omega
  have t17 : (o == 17) = false := by simp; omega
  have e17 : ¬ o = 17 := by omega
  have t18 : (o == 18) = false := by simp; omega
  have e18 : ¬ o = 18 := by omega
  have t19 : (o == 19) = false := by simp; omega
  have e19 : ¬ o = 19 := by omega
  have t20 : (o == 20) = false := by simp; omega
  have e20 : ¬ o = 20 := by omega
  have t21 : (o == 21) = false := by simp; omega
  have e21 : ¬ o = 21 := by omega
  have t0 : (o == 0) = false := by simp; omega
  have e0 : ¬ o = 0 := by omega
  have t25 : (o == 25) = false := by simp; omega
  have e25 : ¬ o = 25 := by omega
  have DO : Hid (∀ W, Calls Tryd.prog 62 #[.agg #[.int .i64 o, .int .i64 ra, .int .i64 rb, .int .i64 rc, .int .i64 imm], .int .u32 (s.r rb), .int .u32 (s.r rc)] W fun e w' => e = .returned (.int .u32 (doZ o imm (s.r rb).toNat (s.r rc).toNat)) ∧ Below W.heap.size W w') := fun W => by
    have h1 := hs.1.2 rb
    have h2 := hs.1.2 rc
    have h := do_any o ra rb rc imm (s.r rb).toNat (s.r rc).toNat W (by omega) (by omega) (by omega) (by omega) hi hj
    rwa [Int.toNat_of_nonneg h1.1, Int.toNat_of_nonneg h2.1] at h
  have B0 : Hid (Boxed w ((w.alloc (.cells C 37)).alloc (.cells noSt 37)) w.heap.size (w.heap.size + 1) C C s) := Boxed.new h _ _
  clear h
  go_enter Tryd.func46, Tryd.ntmps46
  go_upto_region 1 with fail
  rw [noSt_def]
  generalize (w.alloc (.cells C 37)).alloc (.cells noSt 37) = w0 at B0 ⊢
  have HF : Hid (∀ W, Below w0.heap.size w0 W → Calls Tryd.prog 50 #[.slice a n c, .int .i64 s.at_] W fun e w' => e = .returned (.tuple #[.agg #[.int .i64 o, .int .i64 ra, .int .i64 rb, .int .i64 rc, .int .i64 imm], .bool true]) ∧ Below W.heap.size W w') := fun W hW => hF W (bnext B0.out.bel hW)
  clear hF
  obtain ⟨x0, -, -, x22, -, -⟩ := cell_st B0.out
  rw [he] at x22
  go_upto_region 4 with (go_at_call 50; refine (HF.out _ (Below.refl _ _)).mono ?_; rintro e w1 ⟨rfl, hb1⟩; have HB1 : Hid (Below w0.heap.size w0 w1) := hb1)
  have B1 : Hid (Boxed w (w1.alloc (.cells #[.int .i64 o, .int .i64 ra, .int .i64 rb, .int .i64 rc, .int .i64 imm] 54)) w.heap.size (w.heap.size + 1) C C s) := (B0.out.later HB1.out).later ((Below.refl _ _).alloc (Nat.le_refl _) _)
  have I1 : Hid (InsAt (w1.alloc (.cells #[.int .i64 o, .int .i64 ra, .int .i64 rb, .int .i64 rc, .int .i64 imm] 54)) w1.heap.size o ra rb rc imm) := InsAt.new _ _ _ _ _ _ _
  have L1 : Hid (w.heap.size + 1 < w1.heap.size) := by have h1 := B0.out.hb; have h2 := HB1.out.size; have h3 := B0.out.hb.2.2.2.2; show _ < _; omega
  clear x0 x22 hb1 HB1 HF B0
  generalize w1.alloc (.cells #[.int .i64 o, .int .i64 ra, .int .i64 rb, .int .i64 rc, .int .i64 imm] 54) = w2 at B1 I1 ⊢
  obtain ⟨y0, y1, y2, y3, y4⟩ := id I1.out
  have xb := (cell_st B1.out).2.1 rb hb
  have xb' : w2.cell? ⟨w.heap.size, rb + 1, none⟩ = some (.int .u32 (s.r rb)) := by rw [Nat.add_comm]; exact xb
  have xc := (cell_st B1.out).2.1 rc hc
  have xc' : w2.cell? ⟨w.heap.size, rc + 1, none⟩ = some (.int .u32 (s.r rc)) := by rw [Nat.add_comm]; exact xc
  have hb' : (rb : Int) < 16 := by omega
  have hc' : (rc : Int) < 16 := by omega
  obtain ⟨x, ex⟩ : ∃ x, doZ o imm (s.r rb).toNat (s.r rc).toNat = x := ⟨_, rfl⟩
  rw [ex] at DO
  have WR : Hid (∀ W, Below w2.heap.size w2 W → Calls Tryd.prog 61 #[.agg C, .agg #[.int .i64 o, .int .i64 ra, .int .i64 rb, .int .i64 rc, .int .i64 imm], .int .u32 x] W (StPost W C (opZ o ra rb rc imm s))) := fun W hW => write_op (B1.out.later hW).st hs o ra rb rc imm x ha (by omega) (fun _ => ex.symm)
  clear ex hi hj
  go_upto_region 32 with fail
  refine wp_region_held_drew (S := fun w' => (At w' w.heap.size C ∧ w'.cell? ⟨w.heap.size, 1 + rb, none⟩ = some (.int .u32 (s.r rb)) ∧ w'.cell? ⟨w.heap.size, 1 + rc, none⟩ = some (.int .u32 (s.r rc))) ∧ InsAt w' w1.heap.size o ra rb rc imm) (by kernel_rfl) ?_ (fun hHeld => ?_)
  · exact ⟨⟨B1.out.at_, xb, xc⟩, I1.out⟩
  refine wpAnyH_take (i := 0) (oi := { dst := some 77, op := Op.load 37 (.tmp 3), type := _, pos := _, after := _, guard := none }) (v := .agg C) rfl (by kernel_rfl) (by kernel_rfl) (by kernel_rfl) (fun _ _ _ h => h) (yields_st (by rfl) (.tmp 3) rfl w.heap.size rfl B1.out.st (fun w hw => hw.1.1)) (by assumption) ?_
  try simp only [Act.put, List.setIfInBounds_toArray, List.set_cons_zero, List.set_cons_succ]
  refine wpAnyH_take (i := 1) (v := .agg #[.int .i64 o, .int .i64 ra, .int .i64 rb, .int .i64 rc, .int .i64 imm]) rfl (by kernel_rfl) (by kernel_rfl) (by kernel_rfl) (fun _ _ _ h => h) (Or.inl ⟨by rfl, ?_⟩) (by assumption) ?_
  · intro w hSw; (try dsimp only at hSw); obtain ⟨-, f0, f1, f2, f3, f4⟩ := hSw; first | (go_simp; done) | (go_simp; with_reducible rfl)
  try simp only [Act.put, List.setIfInBounds_toArray, List.set_cons_zero, List.set_cons_succ]
  refine wpAnyH_take (i := 2) (v := .agg #[.int .i64 o, .int .i64 ra, .int .i64 rb, .int .i64 rc, .int .i64 imm]) rfl (by kernel_rfl) (by kernel_rfl) (by kernel_rfl) (fun _ _ _ h => h) (Or.inl ⟨by rfl, ?_⟩) (by assumption) ?_
  · intro w hSw; (try dsimp only at hSw); obtain ⟨-, f0, f1, f2, f3, f4⟩ := hSw; first | (go_simp; done) | (go_simp; with_reducible rfl)
  try simp only [Act.put, List.setIfInBounds_toArray, List.set_cons_zero, List.set_cons_succ]
  refine wpAnyH_take (i := 3) (v := ?_) rfl (by kernel_rfl) (by kernel_rfl) (by kernel_rfl) (fun _ _ _ h => h) (Or.inl ⟨by rfl, ?_⟩) (by assumption) ?_
  rotate_left
  · intro w hSw; (try dsimp only at hSw); first | (go_simp; done) | (go_simp; with_reducible rfl)
  try simp only [Act.put, List.setIfInBounds_toArray, List.set_cons_zero, List.set_cons_succ]
  refine wpAnyH_take (i := 4) (v := .int .i64 rb) rfl (by kernel_rfl) (by kernel_rfl) (by kernel_rfl) (fun _ _ _ h => h) (Or.inl ⟨by rfl, ?_⟩) (by assumption) ?_
  · intro w hSw; (try dsimp only at hSw); obtain ⟨-, f0, f1, f2, f3, f4⟩ := hSw; first | (go_simp; done) | (go_simp; with_reducible rfl)
  try simp only [Act.put, List.setIfInBounds_toArray, List.set_cons_zero, List.set_cons_succ]
  refine wpAnyH_take (i := 5) (v := ?_) rfl (by kernel_rfl) (by kernel_rfl) (by kernel_rfl) (fun _ _ _ h => h) (Or.inl ⟨by rfl, ?_⟩) (by assumption) ?_
  rotate_left
  · intro w hSw; (try dsimp only at hSw); first | (go_simp; done) | (go_simp; with_reducible rfl)
  try simp only [Act.put, List.setIfInBounds_toArray, List.set_cons_zero, List.set_cons_succ]
  refine wpAnyH_take (i := 6) (v := ?_) rfl (by kernel_rfl) (by kernel_rfl) (by kernel_rfl) (fun _ _ _ h => h) (Or.inl ⟨by rfl, ?_⟩) (by assumption) ?_
  rotate_left
  · intro w hSw; (try dsimp only at hSw); first | (go_simp; done) | (go_simp; with_reducible rfl)
  try simp only [Act.put, List.setIfInBounds_toArray, List.set_cons_zero, List.set_cons_succ]
  refine wpAnyH_take (i := 7) (v := .int .u32 (s.r rb)) rfl (by kernel_rfl) (by kernel_rfl) (by kernel_rfl) (fun _ _ _ h => h) (Or.inl ⟨by rfl, ?_⟩) (by assumption) ?_
  · intro w hSw; (try dsimp only at hSw); obtain ⟨⟨-, fb, fc⟩, -⟩ := hSw; have fb' := fb; have fc' := fc; rw [Nat.add_comm] at fb' fc'; first | (go_simp; done) | (go_simp; with_reducible rfl)
  try simp only [Act.put, List.setIfInBounds_toArray, List.set_cons_zero, List.set_cons_succ]
  refine wpAnyH_take (i := 8) (v := ?_) rfl (by kernel_rfl) (by kernel_rfl) (by kernel_rfl) (fun _ _ _ h => h) (Or.inl ⟨by rfl, ?_⟩) (by assumption) ?_
  rotate_left
  · intro w hSw; (try dsimp only at hSw); first | (go_simp; done) | (go_simp; with_reducible rfl)
  try simp only [Act.put, List.setIfInBounds_toArray, List.set_cons_zero, List.set_cons_succ]
  refine wpAnyH_take (i := 9) (v := .int .i64 rc) rfl (by kernel_rfl) (by kernel_rfl) (by kernel_rfl) (fun _ _ _ h => h) (Or.inl ⟨by rfl, ?_⟩) (by assumption) ?_
  · intro w hSw; (try dsimp only at hSw); obtain ⟨-, f0, f1, f2, f3, f4⟩ := hSw; first | (go_simp; done) | (go_simp; with_reducible rfl)
  try simp only [Act.put, List.setIfInBounds_toArray, List.set_cons_zero, List.set_cons_succ]
  refine wpAnyH_take (i := 10) (v := ?_) rfl (by kernel_rfl) (by kernel_rfl) (by kernel_rfl) (fun _ _ _ h => h) (Or.inl ⟨by rfl, ?_⟩) (by assumption) ?_
  rotate_left
  · intro w hSw; (try dsimp only at hSw); first | (go_simp; done) | (go_simp; with_reducible rfl)
  try simp only [Act.put, List.setIfInBounds_toArray, List.set_cons_zero, List.set_cons_succ]
  refine wpAnyH_take (i := 11) (v := ?_) rfl (by kernel_rfl) (by kernel_rfl) (by kernel_rfl) (fun _ _ _ h => h) (Or.inl ⟨by rfl, ?_⟩) (by assumption) ?_
  rotate_left
  · intro w hSw; (try dsimp only at hSw); first | (go_simp; done) | (go_simp; with_reducible rfl)
  try simp only [Act.put, List.setIfInBounds_toArray, List.set_cons_zero, List.set_cons_succ]
  refine wpAnyH_take (i := 12) (v := .int .u32 (s.r rc)) rfl (by kernel_rfl) (by kernel_rfl) (by kernel_rfl) (fun _ _ _ h => h) (Or.inl ⟨by rfl, ?_⟩) (by assumption) ?_
  · intro w hSw; (try dsimp only at hSw); obtain ⟨⟨-, fb, fc⟩, -⟩ := hSw; have fb' := fb; have fc' := fc; rw [Nat.add_comm] at fb' fc'; first | (go_simp; done) | (go_simp; with_reducible rfl)
  try simp only [Act.put, List.setIfInBounds_toArray, List.set_cons_zero, List.set_cons_succ]
  refine wpAnyH_ready (rs := [13]) (by kernel_rfl) (by simp) (AllReadyH.cons (o := { dst := some 90, op := Op.call { callee := .value (.func 62), args := #[.tmp 79, .tmp 84, .tmp 89], argTypes := #[54, 28, 28] }, type := _, pos := _, after := _, guard := none }) rfl (fun K hK => ?_) AllReadyH.nil)
  go_simp
  refine (DO.out _).mono ?_
  rintro e w3 ⟨rfl, hb3⟩
  have b3 : Below w2.heap.size w2 w3 := bnext (Below.refl _ _).drew hb3
  refine hK.out _ _ ?_ (fun hHeld => ?_)
  · exact ⟨⟨B1.out.at_.later b3, cell_later' xb b3, cell_later' xc b3⟩, I1.out.later b3⟩
  clear hK K
  try simp only [Act.put, List.setIfInBounds_toArray, List.set_cons_zero, List.set_cons_succ]
  refine wpAnyH_ready (rs := [14]) (by kernel_rfl) (by simp) (AllReadyH.cons (o := { dst := some 91, op := Op.call { callee := .value (.func 61), args := #[.tmp 77, .tmp 78, .tmp 90], argTypes := #[37, 54, 28] }, type := _, pos := _, after := _, guard := none }) rfl (fun K hK => ?_) AllReadyH.nil)
  go_simp
  refine (WR.out _ b3).mono ?_
  rintro e w9 ⟨C9, rfl, h9, v9, b9⟩
  have b4 : Below w2.heap.size w2 w9 := bnext b3 b9
  refine hK.out _ _ ?_ (fun hHeld => ?_)
  · exact ⟨⟨B1.out.at_.later b4, cell_later' xb b4, cell_later' xc b4⟩, I1.out.later b4⟩
  clear hK K
  try simp only [Act.put, List.setIfInBounds_toArray, List.set_cons_zero, List.set_cons_succ]
  refine wpAnyH_ready (rs := [15]) (by kernel_rfl) (by simp) (AllReadyH.cons (o := { dst := none, op := Op.store 37 (.tmp 4) (.tmp 91), type := _, pos := _, after := _, guard := none }) rfl (fun K hK => ?_) AllReadyH.nil)
  rw [if_pos (by rfl)]
  refine wp_store_mid 37 (.tmp 4) (.tmp 91) rfl (w.heap.size + 1) 0 C9 rfl rfl (by rw [(st_shape h9).1]; exact there_later B1.out.room b4) (st_info h9).1 (st_shape h9).2 ?_
  have n1 : w.heap.size ≠ w.heap.size + 1 := by omega
  have n2 : w1.heap.size ≠ w.heap.size + 1 := by have := L1.out; omega
  refine hK.out _ _ ?_ (fun hHeld => ?_)
  · exact ⟨⟨fun j u hu => (cell_setCells_far _ _ _ _ _ n1).trans (B1.out.at_.later b4 j u hu), (cell_setCells_far _ _ _ _ _ n1).trans (cell_later' xb b4), (cell_setCells_far _ _ _ _ _ n1).trans (cell_later' xc b4)⟩, (cell_setCells_far _ _ _ _ _ n2).trans (cell_later' y0 b4), (cell_setCells_far _ _ _ _ _ n2).trans (cell_later' y1 b4), (cell_setCells_far _ _ _ _ _ n2).trans (cell_later' y2 b4), (cell_setCells_far _ _ _ _ _ n2).trans (cell_later' y3 b4), (cell_setCells_far _ _ _ _ _ n2).trans (cell_later' y4 b4)⟩
  clear hK K
  try simp only [Act.put, List.setIfInBounds_toArray, List.set_cons_zero, List.set_cons_succ]
  refine wpAnyH_done (by kernel_rfl) ?_ _
  try simp only [Act.put, List.setIfInBounds_toArray, List.set_cons_zero, List.set_cons_succ]
  go_wp2
  have TT := Told.call B1.out b4 h9 (v9.back b3)
  exact bodyPost_ret (v := .agg C9) (results_st rfl _ (w.heap.size + 1) (by first | rfl | simp) TT.st _ TT.at_) rfl TT.post
end Go.Proofs.YtnpejnjigaalfaaDoor
