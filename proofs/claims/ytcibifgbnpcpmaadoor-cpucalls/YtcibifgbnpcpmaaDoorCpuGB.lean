/- What the code's Step returns, by the operation. -/
import Derived.Test.YtcibifgbnpcpmaaDoorCpuF
namespace Go.Proofs.YtcibifgbnpcpmaaDoor
open Go.ChangeShapes Go.WideShapes Go.ChangeAt Go.RowKit
set_option linter.unusedVariables false
set_option linter.unusedSimpArgs false
set_option maxRecDepth 100000 in
theorem step_17 {w : World} {C : Array Value} {s : St} (h : IsSt w (.agg C) s) (hs : Small s) (he : s.en = false) (a : Option Addr) (n c : Nat) (ra rb rc : Nat) (imm : Int) (ha : ra < 16) (hb : rb < 16) (hc : rc < 16) (hi : -1073741824 ≤ imm ∧ imm ≤ 1073741824)
    (hF : ∀ W, Below w.heap.size w W → Calls Tryd.prog 24 #[.slice a n c, .int .i64 s.at_] W fun e w' => e = .returned (.tuple #[.agg #[.int .i64 17, .int .i64 ra, .int .i64 rb, .int .i64 rc, .int .i64 imm], .bool true]) ∧ Below W.heap.size W w') :
    Calls Tryd.prog 13 #[.slice a n c, .agg C] w (StPost w C (opZ 17 ra rb rc imm s)) := by
  have B0 : Hid (Boxed w ((w.alloc (.cells C 32)).alloc (.cells noSt 32)) w.heap.size (w.heap.size + 1) C C s) := Boxed.new h _ _
  clear h
  go_enter Tryd.func13, Tryd.ntmps13
  go_upto_region 1 with fail
  rw [noSt_def]
  generalize (w.alloc (.cells C 32)).alloc (.cells noSt 32) = w0 at B0 ⊢
  have HF : Hid (∀ W, Below w0.heap.size w0 W → Calls Tryd.prog 24 #[.slice a n c, .int .i64 s.at_] W fun e w' => e = .returned (.tuple #[.agg #[.int .i64 17, .int .i64 ra, .int .i64 rb, .int .i64 rc, .int .i64 imm], .bool true]) ∧ Below W.heap.size W w') := fun W hW => hF W (bnext B0.out.bel hW)
  clear hF
  obtain ⟨x0, -, -, x22, -, -⟩ := cell_st B0.out
  rw [he] at x22
  go_upto_region 4 with (go_at_call 24; refine (HF.out _ (Below.refl _ _)).mono ?_; rintro e w1 ⟨rfl, hb1⟩; have HB1 : Hid (Below w0.heap.size w0 w1) := hb1)
  have B1 : Hid (Boxed w (w1.alloc (.cells #[.int .i64 17, .int .i64 ra, .int .i64 rb, .int .i64 rc, .int .i64 imm] 40)) w.heap.size (w.heap.size + 1) C C s) := (B0.out.later HB1.out).later ((Below.refl _ _).alloc (Nat.le_refl _) _)
  have I1 : Hid (InsAt (w1.alloc (.cells #[.int .i64 17, .int .i64 ra, .int .i64 rb, .int .i64 rc, .int .i64 imm] 40)) w1.heap.size 17 ra rb rc imm) := InsAt.new _ _ _ _ _ _ _
  have L1 : Hid (w.heap.size + 1 < w1.heap.size) := by have h1 := B0.out.hb; have h2 := HB1.out.size; have h3 := B0.out.hb.2.2.2.2; show _ < _; omega
  clear x0 x22 hb1 HB1 HF B0
  generalize w1.alloc (.cells #[.int .i64 17, .int .i64 ra, .int .i64 rb, .int .i64 rc, .int .i64 imm] 40) = w2 at B1 I1 ⊢
  obtain ⟨y0, y1, y2, y3, y4⟩ := id I1.out
  go_wp2_with (first
    | (go_at_call 30; refine (branch_op B1.out.st hs 17 ra rb rc imm ha hb hi (by omega)).mono ?_; rintro e w9 ⟨C9, rfl, h9, v9, b9⟩)
    | ((with_reducible show wpList _ _ _ (Oper.mk _ (Op.load _ _) _ _ _ _ :: _) _ _); refine wpList_load_if (by rfl) 32 (.tmp 3) rfl w.heap.size 0 rfl C.toList _ (at_range B1.out.at_) Tryd.underlying32 rfl (st_info B1.out.st).2 ?_)
    | ((with_reducible show wpList _ _ _ (Oper.mk _ (Op.store _ _ _) _ _ _ _ :: _) _ _); refine wpList_store_room (w := w) rfl (.tmp 4) (.tmp 52) rfl (w.heap.size + 1) C9 rfl rfl h9 (there_later B1.out.room b9) ?_))
  have TT := Told.call B1.out b9 h9 v9
  exact bodyPost_ret (v := .agg C9) (results_st rfl _ (w.heap.size + 1) (by first | rfl | simp) TT.st _ TT.at_) rfl TT.post
set_option maxRecDepth 100000 in
theorem step_18 {w : World} {C : Array Value} {s : St} (h : IsSt w (.agg C) s) (hs : Small s) (he : s.en = false) (a : Option Addr) (n c : Nat) (ra rb rc : Nat) (imm : Int) (ha : ra < 16) (hb : rb < 16) (hc : rc < 16) (hi : -1073741824 ≤ imm ∧ imm ≤ 1073741824)
    (hF : ∀ W, Below w.heap.size w W → Calls Tryd.prog 24 #[.slice a n c, .int .i64 s.at_] W fun e w' => e = .returned (.tuple #[.agg #[.int .i64 18, .int .i64 ra, .int .i64 rb, .int .i64 rc, .int .i64 imm], .bool true]) ∧ Below W.heap.size W w') :
    Calls Tryd.prog 13 #[.slice a n c, .agg C] w (StPost w C (opZ 18 ra rb rc imm s)) := by
  have B0 : Hid (Boxed w ((w.alloc (.cells C 32)).alloc (.cells noSt 32)) w.heap.size (w.heap.size + 1) C C s) := Boxed.new h _ _
  clear h
  go_enter Tryd.func13, Tryd.ntmps13
  go_upto_region 1 with fail
  rw [noSt_def]
  generalize (w.alloc (.cells C 32)).alloc (.cells noSt 32) = w0 at B0 ⊢
  have HF : Hid (∀ W, Below w0.heap.size w0 W → Calls Tryd.prog 24 #[.slice a n c, .int .i64 s.at_] W fun e w' => e = .returned (.tuple #[.agg #[.int .i64 18, .int .i64 ra, .int .i64 rb, .int .i64 rc, .int .i64 imm], .bool true]) ∧ Below W.heap.size W w') := fun W hW => hF W (bnext B0.out.bel hW)
  clear hF
  obtain ⟨x0, -, -, x22, -, -⟩ := cell_st B0.out
  rw [he] at x22
  go_upto_region 4 with (go_at_call 24; refine (HF.out _ (Below.refl _ _)).mono ?_; rintro e w1 ⟨rfl, hb1⟩; have HB1 : Hid (Below w0.heap.size w0 w1) := hb1)
  have B1 : Hid (Boxed w (w1.alloc (.cells #[.int .i64 18, .int .i64 ra, .int .i64 rb, .int .i64 rc, .int .i64 imm] 40)) w.heap.size (w.heap.size + 1) C C s) := (B0.out.later HB1.out).later ((Below.refl _ _).alloc (Nat.le_refl _) _)
  have I1 : Hid (InsAt (w1.alloc (.cells #[.int .i64 18, .int .i64 ra, .int .i64 rb, .int .i64 rc, .int .i64 imm] 40)) w1.heap.size 18 ra rb rc imm) := InsAt.new _ _ _ _ _ _ _
  have L1 : Hid (w.heap.size + 1 < w1.heap.size) := by have h1 := B0.out.hb; have h2 := HB1.out.size; have h3 := B0.out.hb.2.2.2.2; show _ < _; omega
  clear x0 x22 hb1 HB1 HF B0
  generalize w1.alloc (.cells #[.int .i64 18, .int .i64 ra, .int .i64 rb, .int .i64 rc, .int .i64 imm] 40) = w2 at B1 I1 ⊢
  obtain ⟨y0, y1, y2, y3, y4⟩ := id I1.out
  go_wp2_with (first
    | (go_at_call 30; refine (branch_op B1.out.st hs 18 ra rb rc imm ha hb hi (by omega)).mono ?_; rintro e w9 ⟨C9, rfl, h9, v9, b9⟩)
    | ((with_reducible show wpList _ _ _ (Oper.mk _ (Op.load _ _) _ _ _ _ :: _) _ _); refine wpList_load_if (by rfl) 32 (.tmp 3) rfl w.heap.size 0 rfl C.toList _ (at_range B1.out.at_) Tryd.underlying32 rfl (st_info B1.out.st).2 ?_)
    | ((with_reducible show wpList _ _ _ (Oper.mk _ (Op.store _ _ _) _ _ _ _ :: _) _ _); refine wpList_store_room (w := w) rfl (.tmp 4) (.tmp 52) rfl (w.heap.size + 1) C9 rfl rfl h9 (there_later B1.out.room b9) ?_))
  have TT := Told.call B1.out b9 h9 v9
  exact bodyPost_ret (v := .agg C9) (results_st rfl _ (w.heap.size + 1) (by first | rfl | simp) TT.st _ TT.at_) rfl TT.post
set_option maxRecDepth 100000 in
theorem step_19 {w : World} {C : Array Value} {s : St} (h : IsSt w (.agg C) s) (hs : Small s) (he : s.en = false) (a : Option Addr) (n c : Nat) (ra rb rc : Nat) (imm : Int) (ha : ra < 16) (hb : rb < 16) (hc : rc < 16) (hi : -1073741824 ≤ imm ∧ imm ≤ 1073741824)
    (hF : ∀ W, Below w.heap.size w W → Calls Tryd.prog 24 #[.slice a n c, .int .i64 s.at_] W fun e w' => e = .returned (.tuple #[.agg #[.int .i64 19, .int .i64 ra, .int .i64 rb, .int .i64 rc, .int .i64 imm], .bool true]) ∧ Below W.heap.size W w') :
    Calls Tryd.prog 13 #[.slice a n c, .agg C] w (StPost w C (opZ 19 ra rb rc imm s)) := by
  have B0 : Hid (Boxed w ((w.alloc (.cells C 32)).alloc (.cells noSt 32)) w.heap.size (w.heap.size + 1) C C s) := Boxed.new h _ _
  clear h
  go_enter Tryd.func13, Tryd.ntmps13
  go_upto_region 1 with fail
  rw [noSt_def]
  generalize (w.alloc (.cells C 32)).alloc (.cells noSt 32) = w0 at B0 ⊢
  have HF : Hid (∀ W, Below w0.heap.size w0 W → Calls Tryd.prog 24 #[.slice a n c, .int .i64 s.at_] W fun e w' => e = .returned (.tuple #[.agg #[.int .i64 19, .int .i64 ra, .int .i64 rb, .int .i64 rc, .int .i64 imm], .bool true]) ∧ Below W.heap.size W w') := fun W hW => hF W (bnext B0.out.bel hW)
  clear hF
  obtain ⟨x0, -, -, x22, -, -⟩ := cell_st B0.out
  rw [he] at x22
  go_upto_region 4 with (go_at_call 24; refine (HF.out _ (Below.refl _ _)).mono ?_; rintro e w1 ⟨rfl, hb1⟩; have HB1 : Hid (Below w0.heap.size w0 w1) := hb1)
  have B1 : Hid (Boxed w (w1.alloc (.cells #[.int .i64 19, .int .i64 ra, .int .i64 rb, .int .i64 rc, .int .i64 imm] 40)) w.heap.size (w.heap.size + 1) C C s) := (B0.out.later HB1.out).later ((Below.refl _ _).alloc (Nat.le_refl _) _)
  have I1 : Hid (InsAt (w1.alloc (.cells #[.int .i64 19, .int .i64 ra, .int .i64 rb, .int .i64 rc, .int .i64 imm] 40)) w1.heap.size 19 ra rb rc imm) := InsAt.new _ _ _ _ _ _ _
  have L1 : Hid (w.heap.size + 1 < w1.heap.size) := by have h1 := B0.out.hb; have h2 := HB1.out.size; have h3 := B0.out.hb.2.2.2.2; show _ < _; omega
  clear x0 x22 hb1 HB1 HF B0
  generalize w1.alloc (.cells #[.int .i64 19, .int .i64 ra, .int .i64 rb, .int .i64 rc, .int .i64 imm] 40) = w2 at B1 I1 ⊢
  obtain ⟨y0, y1, y2, y3, y4⟩ := id I1.out
  go_wp2_with (first
    | (go_at_call 31; refine (jump_op B1.out.st hs 19 ra rb rc imm hi rfl).mono ?_; rintro e w9 ⟨C9, rfl, h9, v9, b9⟩)
    | ((with_reducible show wpList _ _ _ (Oper.mk _ (Op.load _ _) _ _ _ _ :: _) _ _); refine wpList_load_if (by rfl) 32 (.tmp 3) rfl w.heap.size 0 rfl C.toList _ (at_range B1.out.at_) Tryd.underlying32 rfl (st_info B1.out.st).2 ?_)
    | ((with_reducible show wpList _ _ _ (Oper.mk _ (Op.store _ _ _) _ _ _ _ :: _) _ _); refine wpList_store_room (w := w) rfl (.tmp 4) (.tmp 58) rfl (w.heap.size + 1) C9 rfl rfl h9 (there_later B1.out.room b9) ?_))
  have TT := Told.call B1.out b9 h9 v9
  exact bodyPost_ret (v := .agg C9) (results_st rfl _ (w.heap.size + 1) (by first | rfl | simp) TT.st _ TT.at_) rfl TT.post
set_option maxRecDepth 100000 in
theorem step_20 {w : World} {C : Array Value} {s : St} (h : IsSt w (.agg C) s) (hs : Small s) (he : s.en = false) (a : Option Addr) (n c : Nat) (ra rb rc : Nat) (imm : Int) (ha : ra < 16) (hb : rb < 16) (hc : rc < 16) (hi : -1073741824 ≤ imm ∧ imm ≤ 1073741824)
    (hF : ∀ W, Below w.heap.size w W → Calls Tryd.prog 24 #[.slice a n c, .int .i64 s.at_] W fun e w' => e = .returned (.tuple #[.agg #[.int .i64 20, .int .i64 ra, .int .i64 rb, .int .i64 rc, .int .i64 imm], .bool true]) ∧ Below W.heap.size W w') :
    Calls Tryd.prog 13 #[.slice a n c, .agg C] w (StPost w C (opZ 20 ra rb rc imm s)) := by
  have B0 : Hid (Boxed w ((w.alloc (.cells C 32)).alloc (.cells noSt 32)) w.heap.size (w.heap.size + 1) C C s) := Boxed.new h _ _
  clear h
  go_enter Tryd.func13, Tryd.ntmps13
  go_upto_region 1 with fail
  rw [noSt_def]
  generalize (w.alloc (.cells C 32)).alloc (.cells noSt 32) = w0 at B0 ⊢
  have HF : Hid (∀ W, Below w0.heap.size w0 W → Calls Tryd.prog 24 #[.slice a n c, .int .i64 s.at_] W fun e w' => e = .returned (.tuple #[.agg #[.int .i64 20, .int .i64 ra, .int .i64 rb, .int .i64 rc, .int .i64 imm], .bool true]) ∧ Below W.heap.size W w') := fun W hW => hF W (bnext B0.out.bel hW)
  clear hF
  obtain ⟨x0, -, -, x22, -, -⟩ := cell_st B0.out
  rw [he] at x22
  go_upto_region 4 with (go_at_call 24; refine (HF.out _ (Below.refl _ _)).mono ?_; rintro e w1 ⟨rfl, hb1⟩; have HB1 : Hid (Below w0.heap.size w0 w1) := hb1)
  have B1 : Hid (Boxed w (w1.alloc (.cells #[.int .i64 20, .int .i64 ra, .int .i64 rb, .int .i64 rc, .int .i64 imm] 40)) w.heap.size (w.heap.size + 1) C C s) := (B0.out.later HB1.out).later ((Below.refl _ _).alloc (Nat.le_refl _) _)
  have I1 : Hid (InsAt (w1.alloc (.cells #[.int .i64 20, .int .i64 ra, .int .i64 rb, .int .i64 rc, .int .i64 imm] 40)) w1.heap.size 20 ra rb rc imm) := InsAt.new _ _ _ _ _ _ _
  have L1 : Hid (w.heap.size + 1 < w1.heap.size) := by have h1 := B0.out.hb; have h2 := HB1.out.size; have h3 := B0.out.hb.2.2.2.2; show _ < _; omega
  clear x0 x22 hb1 HB1 HF B0
  generalize w1.alloc (.cells #[.int .i64 20, .int .i64 ra, .int .i64 rb, .int .i64 rc, .int .i64 imm] 40) = w2 at B1 I1 ⊢
  obtain ⟨y0, y1, y2, y3, y4⟩ := id I1.out
  go_wp2_with (first
    | (go_at_call 32; refine (call_op B1.out.st hs 20 ra rb rc imm hi rfl).mono ?_; rintro e w9 ⟨C9, rfl, h9, v9, b9⟩)
    | ((with_reducible show wpList _ _ _ (Oper.mk _ (Op.load _ _) _ _ _ _ :: _) _ _); refine wpList_load_if (by rfl) 32 (.tmp 3) rfl w.heap.size 0 rfl C.toList _ (at_range B1.out.at_) Tryd.underlying32 rfl (st_info B1.out.st).2 ?_)
    | ((with_reducible show wpList _ _ _ (Oper.mk _ (Op.store _ _ _) _ _ _ _ :: _) _ _); refine wpList_store_room (w := w) rfl (.tmp 4) (.tmp 63) rfl (w.heap.size + 1) C9 rfl rfl h9 (there_later B1.out.room b9) ?_))
  have TT := Told.call B1.out b9 h9 v9
  exact bodyPost_ret (v := .agg C9) (results_st rfl _ (w.heap.size + 1) (by first | rfl | simp) TT.st _ TT.at_) rfl TT.post
set_option maxRecDepth 100000 in
theorem step_21 {w : World} {C : Array Value} {s : St} (h : IsSt w (.agg C) s) (hs : Small s) (he : s.en = false) (a : Option Addr) (n c : Nat) (ra rb rc : Nat) (imm : Int) (ha : ra < 16) (hb : rb < 16) (hc : rc < 16) (hi : -1073741824 ≤ imm ∧ imm ≤ 1073741824)
    (hF : ∀ W, Below w.heap.size w W → Calls Tryd.prog 24 #[.slice a n c, .int .i64 s.at_] W fun e w' => e = .returned (.tuple #[.agg #[.int .i64 21, .int .i64 ra, .int .i64 rb, .int .i64 rc, .int .i64 imm], .bool true]) ∧ Below W.heap.size W w') :
    Calls Tryd.prog 13 #[.slice a n c, .agg C] w (StPost w C (opZ 21 ra rb rc imm s)) := by
  have B0 : Hid (Boxed w ((w.alloc (.cells C 32)).alloc (.cells noSt 32)) w.heap.size (w.heap.size + 1) C C s) := Boxed.new h _ _
  clear h
  go_enter Tryd.func13, Tryd.ntmps13
  go_upto_region 1 with fail
  rw [noSt_def]
  generalize (w.alloc (.cells C 32)).alloc (.cells noSt 32) = w0 at B0 ⊢
  have HF : Hid (∀ W, Below w0.heap.size w0 W → Calls Tryd.prog 24 #[.slice a n c, .int .i64 s.at_] W fun e w' => e = .returned (.tuple #[.agg #[.int .i64 21, .int .i64 ra, .int .i64 rb, .int .i64 rc, .int .i64 imm], .bool true]) ∧ Below W.heap.size W w') := fun W hW => hF W (bnext B0.out.bel hW)
  clear hF
  obtain ⟨x0, -, -, x22, -, -⟩ := cell_st B0.out
  rw [he] at x22
  go_upto_region 4 with (go_at_call 24; refine (HF.out _ (Below.refl _ _)).mono ?_; rintro e w1 ⟨rfl, hb1⟩; have HB1 : Hid (Below w0.heap.size w0 w1) := hb1)
  have B1 : Hid (Boxed w (w1.alloc (.cells #[.int .i64 21, .int .i64 ra, .int .i64 rb, .int .i64 rc, .int .i64 imm] 40)) w.heap.size (w.heap.size + 1) C C s) := (B0.out.later HB1.out).later ((Below.refl _ _).alloc (Nat.le_refl _) _)
  have I1 : Hid (InsAt (w1.alloc (.cells #[.int .i64 21, .int .i64 ra, .int .i64 rb, .int .i64 rc, .int .i64 imm] 40)) w1.heap.size 21 ra rb rc imm) := InsAt.new _ _ _ _ _ _ _
  have L1 : Hid (w.heap.size + 1 < w1.heap.size) := by have h1 := B0.out.hb; have h2 := HB1.out.size; have h3 := B0.out.hb.2.2.2.2; show _ < _; omega
  clear x0 x22 hb1 HB1 HF B0
  generalize w1.alloc (.cells #[.int .i64 21, .int .i64 ra, .int .i64 rb, .int .i64 rc, .int .i64 imm] 40) = w2 at B1 I1 ⊢
  obtain ⟨y0, y1, y2, y3, y4⟩ := id I1.out
  go_wp2_with (first
    | (go_at_call 33; refine (ret_op B1.out.st hs 21 ra rb rc imm rfl).mono ?_; rintro e w9 ⟨C9, rfl, h9, v9, b9⟩)
    | ((with_reducible show wpList _ _ _ (Oper.mk _ (Op.load _ _) _ _ _ _ :: _) _ _); refine wpList_load_if (by rfl) 32 (.tmp 3) rfl w.heap.size 0 rfl C.toList _ (at_range B1.out.at_) Tryd.underlying32 rfl (st_info B1.out.st).2 ?_)
    | ((with_reducible show wpList _ _ _ (Oper.mk _ (Op.store _ _ _) _ _ _ _ :: _) _ _); refine wpList_store_room (w := w) rfl (.tmp 4) (.tmp 67) rfl (w.heap.size + 1) C9 rfl rfl h9 (there_later B1.out.room b9) ?_))
  have TT := Told.call B1.out b9 h9 v9
  exact bodyPost_ret (v := .agg C9) (results_st rfl _ (w.heap.size + 1) (by first | rfl | simp) TT.st _ TT.at_) rfl TT.post
set_option maxRecDepth 100000 in
theorem step_0 {w : World} {C : Array Value} {s : St} (h : IsSt w (.agg C) s) (hs : Small s) (he : s.en = false) (a : Option Addr) (n c : Nat) (ra rb rc : Nat) (imm : Int) (ha : ra < 16) (hb : rb < 16) (hc : rc < 16) (hi : -1073741824 ≤ imm ∧ imm ≤ 1073741824)
    (hF : ∀ W, Below w.heap.size w W → Calls Tryd.prog 24 #[.slice a n c, .int .i64 s.at_] W fun e w' => e = .returned (.tuple #[.agg #[.int .i64 0, .int .i64 ra, .int .i64 rb, .int .i64 rc, .int .i64 imm], .bool true]) ∧ Below W.heap.size W w') :
    Calls Tryd.prog 13 #[.slice a n c, .agg C] w (StPost w C (opZ 0 ra rb rc imm s)) := by
  have B0 : Hid (Boxed w ((w.alloc (.cells C 32)).alloc (.cells noSt 32)) w.heap.size (w.heap.size + 1) C C s) := Boxed.new h _ _
  clear h
  go_enter Tryd.func13, Tryd.ntmps13
  go_upto_region 1 with fail
  rw [noSt_def]
  generalize (w.alloc (.cells C 32)).alloc (.cells noSt 32) = w0 at B0 ⊢
  have HF : Hid (∀ W, Below w0.heap.size w0 W → Calls Tryd.prog 24 #[.slice a n c, .int .i64 s.at_] W fun e w' => e = .returned (.tuple #[.agg #[.int .i64 0, .int .i64 ra, .int .i64 rb, .int .i64 rc, .int .i64 imm], .bool true]) ∧ Below W.heap.size W w') := fun W hW => hF W (bnext B0.out.bel hW)
  clear hF
  obtain ⟨x0, -, -, x22, -, -⟩ := cell_st B0.out
  rw [he] at x22
  go_upto_region 4 with (go_at_call 24; refine (HF.out _ (Below.refl _ _)).mono ?_; rintro e w1 ⟨rfl, hb1⟩; have HB1 : Hid (Below w0.heap.size w0 w1) := hb1)
  have B1 : Hid (Boxed w (w1.alloc (.cells #[.int .i64 0, .int .i64 ra, .int .i64 rb, .int .i64 rc, .int .i64 imm] 40)) w.heap.size (w.heap.size + 1) C C s) := (B0.out.later HB1.out).later ((Below.refl _ _).alloc (Nat.le_refl _) _)
  have I1 : Hid (InsAt (w1.alloc (.cells #[.int .i64 0, .int .i64 ra, .int .i64 rb, .int .i64 rc, .int .i64 imm] 40)) w1.heap.size 0 ra rb rc imm) := InsAt.new _ _ _ _ _ _ _
  have L1 : Hid (w.heap.size + 1 < w1.heap.size) := by have h1 := B0.out.hb; have h2 := HB1.out.size; have h3 := B0.out.hb.2.2.2.2; show _ < _; omega
  clear x0 x22 hb1 HB1 HF B0
  generalize w1.alloc (.cells #[.int .i64 0, .int .i64 ra, .int .i64 rb, .int .i64 rc, .int .i64 imm] 40) = w2 at B1 I1 ⊢
  obtain ⟨y0, y1, y2, y3, y4⟩ := id I1.out
  go_wp2_with (first
    | (go_at_call 34; refine (halt_op B1.out.st 0 ra rb rc imm ha rfl).mono ?_; rintro e w9 ⟨C9, rfl, h9, v9, b9⟩)
    | ((with_reducible show wpList _ _ _ (Oper.mk _ (Op.load _ _) _ _ _ _ :: _) _ _); refine wpList_load_if (by rfl) 32 (.tmp 3) rfl w.heap.size 0 rfl C.toList _ (at_range B1.out.at_) Tryd.underlying32 rfl (st_info B1.out.st).2 ?_)
    | ((with_reducible show wpList _ _ _ (Oper.mk _ (Op.store _ _ _) _ _ _ _ :: _) _ _); refine wpList_store_room (w := w) rfl (.tmp 4) (.tmp 72) rfl (w.heap.size + 1) C9 rfl rfl h9 (there_later B1.out.room b9) ?_))
  have TT := Told.call B1.out b9 h9 v9
  exact bodyPost_ret (v := .agg C9) (results_st rfl _ (w.heap.size + 1) (by first | rfl | simp) TT.st _ TT.at_) rfl TT.post
set_option maxRecDepth 100000 in
theorem step_25 {w : World} {C : Array Value} {s : St} (h : IsSt w (.agg C) s) (hs : Small s) (he : s.en = false) (a : Option Addr) (n c : Nat) (ra rb rc : Nat) (imm : Int) (ha : ra < 16) (hb : rb < 16) (hc : rc < 16) (hi : -1073741824 ≤ imm ∧ imm ≤ 1073741824)
    (hF : ∀ W, Below w.heap.size w W → Calls Tryd.prog 24 #[.slice a n c, .int .i64 s.at_] W fun e w' => e = .returned (.tuple #[.agg #[.int .i64 25, .int .i64 ra, .int .i64 rb, .int .i64 rc, .int .i64 imm], .bool true]) ∧ Below W.heap.size W w') :
    Calls Tryd.prog 13 #[.slice a n c, .agg C] w (StPost w C (opZ 25 ra rb rc imm s)) := by
  have B0 : Hid (Boxed w ((w.alloc (.cells C 32)).alloc (.cells noSt 32)) w.heap.size (w.heap.size + 1) C C s) := Boxed.new h _ _
  clear h
  go_enter Tryd.func13, Tryd.ntmps13
  go_upto_region 1 with fail
  rw [noSt_def]
  generalize (w.alloc (.cells C 32)).alloc (.cells noSt 32) = w0 at B0 ⊢
  have HF : Hid (∀ W, Below w0.heap.size w0 W → Calls Tryd.prog 24 #[.slice a n c, .int .i64 s.at_] W fun e w' => e = .returned (.tuple #[.agg #[.int .i64 25, .int .i64 ra, .int .i64 rb, .int .i64 rc, .int .i64 imm], .bool true]) ∧ Below W.heap.size W w') := fun W hW => hF W (bnext B0.out.bel hW)
  clear hF
  obtain ⟨x0, -, -, x22, -, -⟩ := cell_st B0.out
  rw [he] at x22
  go_upto_region 4 with (go_at_call 24; refine (HF.out _ (Below.refl _ _)).mono ?_; rintro e w1 ⟨rfl, hb1⟩; have HB1 : Hid (Below w0.heap.size w0 w1) := hb1)
  have B1 : Hid (Boxed w (w1.alloc (.cells #[.int .i64 25, .int .i64 ra, .int .i64 rb, .int .i64 rc, .int .i64 imm] 40)) w.heap.size (w.heap.size + 1) C C s) := (B0.out.later HB1.out).later ((Below.refl _ _).alloc (Nat.le_refl _) _)
  have I1 : Hid (InsAt (w1.alloc (.cells #[.int .i64 25, .int .i64 ra, .int .i64 rb, .int .i64 rc, .int .i64 imm] 40)) w1.heap.size 25 ra rb rc imm) := InsAt.new _ _ _ _ _ _ _
  have L1 : Hid (w.heap.size + 1 < w1.heap.size) := by have h1 := B0.out.hb; have h2 := HB1.out.size; have h3 := B0.out.hb.2.2.2.2; show _ < _; omega
  clear x0 x22 hb1 HB1 HF B0
  generalize w1.alloc (.cells #[.int .i64 25, .int .i64 ra, .int .i64 rb, .int .i64 rc, .int .i64 imm] 40) = w2 at B1 I1 ⊢
  obtain ⟨y0, y1, y2, y3, y4⟩ := id I1.out
  go_wp2_with (first
    | (go_at_call 25; refine (trap_op B1.out.st 25 ra rb rc imm rfl).mono ?_; rintro e w9 ⟨C9, rfl, h9, v9, b9⟩)
    | ((with_reducible show wpList _ _ _ (Oper.mk _ (Op.load _ _) _ _ _ _ :: _) _ _); refine wpList_load_if (by rfl) 32 (.tmp 3) rfl w.heap.size 0 rfl C.toList _ (at_range B1.out.at_) Tryd.underlying32 rfl (st_info B1.out.st).2 ?_)
    | ((with_reducible show wpList _ _ _ (Oper.mk _ (Op.store _ _ _) _ _ _ _ :: _) _ _); refine wpList_store_room (w := w) rfl (.tmp 4) (.tmp 76) rfl (w.heap.size + 1) C9 rfl rfl h9 (there_later B1.out.room b9) ?_))
  have TT := Told.call B1.out b9 h9 v9
  exact bodyPost_ret (v := .agg C9) (results_st rfl _ (w.heap.size + 1) (by first | rfl | simp) TT.st _ TT.at_) rfl TT.post
end Go.Proofs.YtcibifgbnpcpmaaDoor
