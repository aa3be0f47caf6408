/- What the code's Step returns, by the operation. -/
import Derived.Test.YtcibifgbnpcpmaaDoorCpuF
namespace Go.Proofs.YtcibifgbnpcpmaaDoor
open Go.ChangeShapes Go.WideShapes Go.ChangeAt Go.RowKit
set_option linter.unusedVariables false
set_option linter.unusedSimpArgs false
set_option maxRecDepth 100000 in
theorem step_11 {w : World} {C : Array Value} {s : St} (h : IsSt w (.agg C) s) (hs : Small s) (he : s.en = false) (a : Option Addr) (n c : Nat) (ra rb rc : Nat) (imm : Int) (ha : ra < 16) (hb : rb < 16) (hc : rc < 16) (hi : -1073741824 ≤ imm ∧ imm ≤ 1073741824)
    (hF : ∀ W, Below w.heap.size w W → Calls Tryd.prog 24 #[.slice a n c, .int .i64 s.at_] W fun e w' => e = .returned (.tuple #[.agg #[.int .i64 11, .int .i64 ra, .int .i64 rb, .int .i64 rc, .int .i64 imm], .bool true]) ∧ Below W.heap.size W w') :
    Calls Tryd.prog 13 #[.slice a n c, .agg C] w (StPost w C (opZ 11 ra rb rc imm s)) := by
  have B0 : Hid (Boxed w ((w.alloc (.cells C 32)).alloc (.cells noSt 32)) w.heap.size (w.heap.size + 1) C C s) := Boxed.new h _ _
  clear h
  go_enter Tryd.func13, Tryd.ntmps13
  go_upto_region 1 with fail
  rw [noSt_def]
  generalize (w.alloc (.cells C 32)).alloc (.cells noSt 32) = w0 at B0 ⊢
  have HF : Hid (∀ W, Below w0.heap.size w0 W → Calls Tryd.prog 24 #[.slice a n c, .int .i64 s.at_] W fun e w' => e = .returned (.tuple #[.agg #[.int .i64 11, .int .i64 ra, .int .i64 rb, .int .i64 rc, .int .i64 imm], .bool true]) ∧ Below W.heap.size W w') := fun W hW => hF W (bnext B0.out.bel hW)
  clear hF
  obtain ⟨x0, -, -, x22, -, -⟩ := cell_st B0.out
  rw [he] at x22
  go_upto_region 4 with (go_at_call 24; refine (HF.out _ (Below.refl _ _)).mono ?_; rintro e w1 ⟨rfl, hb1⟩; have HB1 : Hid (Below w0.heap.size w0 w1) := hb1)
  have B1 : Hid (Boxed w (w1.alloc (.cells #[.int .i64 11, .int .i64 ra, .int .i64 rb, .int .i64 rc, .int .i64 imm] 40)) w.heap.size (w.heap.size + 1) C C s) := (B0.out.later HB1.out).later ((Below.refl _ _).alloc (Nat.le_refl _) _)
  have I1 : Hid (InsAt (w1.alloc (.cells #[.int .i64 11, .int .i64 ra, .int .i64 rb, .int .i64 rc, .int .i64 imm] 40)) w1.heap.size 11 ra rb rc imm) := InsAt.new _ _ _ _ _ _ _
  have L1 : Hid (w.heap.size + 1 < w1.heap.size) := by have h1 := B0.out.hb; have h2 := HB1.out.size; have h3 := B0.out.hb.2.2.2.2; show _ < _; omega
  clear x0 x22 hb1 HB1 HF B0
  generalize w1.alloc (.cells #[.int .i64 11, .int .i64 ra, .int .i64 rb, .int .i64 rc, .int .i64 imm] 40) = w2 at B1 I1 ⊢
  obtain ⟨y0, y1, y2, y3, y4⟩ := id I1.out
  go_wp2_with (first
    | (go_at_call 26; refine (load_op B1.out.st hs 11 ra rb rc imm ha hb hi (by omega)).mono ?_; rintro e w9 ⟨C9, rfl, h9, v9, b9⟩)
    | ((with_reducible show wpList _ _ _ (Oper.mk _ (Op.load _ _) _ _ _ _ :: _) _ _); refine wpList_load_if (by rfl) 32 (.tmp 3) rfl w.heap.size 0 rfl C.toList _ (at_range B1.out.at_) Tryd.underlying32 rfl (st_info B1.out.st).2 ?_)
    | ((with_reducible show wpList _ _ _ (Oper.mk _ (Op.store _ _ _) _ _ _ _ :: _) _ _); refine wpList_store_room (w := w) rfl (.tmp 4) (.tmp 28) rfl (w.heap.size + 1) C9 rfl rfl h9 (there_later B1.out.room b9) ?_))
  have TT := Told.call B1.out b9 h9 v9
  exact bodyPost_ret (v := .agg C9) (results_st rfl _ (w.heap.size + 1) (by first | rfl | simp) TT.st _ TT.at_) rfl TT.post
set_option maxRecDepth 100000 in
theorem step_13 {w : World} {C : Array Value} {s : St} (h : IsSt w (.agg C) s) (hs : Small s) (he : s.en = false) (a : Option Addr) (n c : Nat) (ra rb rc : Nat) (imm : Int) (ha : ra < 16) (hb : rb < 16) (hc : rc < 16) (hi : -1073741824 ≤ imm ∧ imm ≤ 1073741824)
    (hF : ∀ W, Below w.heap.size w W → Calls Tryd.prog 24 #[.slice a n c, .int .i64 s.at_] W fun e w' => e = .returned (.tuple #[.agg #[.int .i64 13, .int .i64 ra, .int .i64 rb, .int .i64 rc, .int .i64 imm], .bool true]) ∧ Below W.heap.size W w') :
    Calls Tryd.prog 13 #[.slice a n c, .agg C] w (StPost w C (opZ 13 ra rb rc imm s)) := by
  have B0 : Hid (Boxed w ((w.alloc (.cells C 32)).alloc (.cells noSt 32)) w.heap.size (w.heap.size + 1) C C s) := Boxed.new h _ _
  clear h
  go_enter Tryd.func13, Tryd.ntmps13
  go_upto_region 1 with fail
  rw [noSt_def]
  generalize (w.alloc (.cells C 32)).alloc (.cells noSt 32) = w0 at B0 ⊢
  have HF : Hid (∀ W, Below w0.heap.size w0 W → Calls Tryd.prog 24 #[.slice a n c, .int .i64 s.at_] W fun e w' => e = .returned (.tuple #[.agg #[.int .i64 13, .int .i64 ra, .int .i64 rb, .int .i64 rc, .int .i64 imm], .bool true]) ∧ Below W.heap.size W w') := fun W hW => hF W (bnext B0.out.bel hW)
  clear hF
  obtain ⟨x0, -, -, x22, -, -⟩ := cell_st B0.out
  rw [he] at x22
  go_upto_region 4 with (go_at_call 24; refine (HF.out _ (Below.refl _ _)).mono ?_; rintro e w1 ⟨rfl, hb1⟩; have HB1 : Hid (Below w0.heap.size w0 w1) := hb1)
  have B1 : Hid (Boxed w (w1.alloc (.cells #[.int .i64 13, .int .i64 ra, .int .i64 rb, .int .i64 rc, .int .i64 imm] 40)) w.heap.size (w.heap.size + 1) C C s) := (B0.out.later HB1.out).later ((Below.refl _ _).alloc (Nat.le_refl _) _)
  have I1 : Hid (InsAt (w1.alloc (.cells #[.int .i64 13, .int .i64 ra, .int .i64 rb, .int .i64 rc, .int .i64 imm] 40)) w1.heap.size 13 ra rb rc imm) := InsAt.new _ _ _ _ _ _ _
  have L1 : Hid (w.heap.size + 1 < w1.heap.size) := by have h1 := B0.out.hb; have h2 := HB1.out.size; have h3 := B0.out.hb.2.2.2.2; show _ < _; omega
  clear x0 x22 hb1 HB1 HF B0
  generalize w1.alloc (.cells #[.int .i64 13, .int .i64 ra, .int .i64 rb, .int .i64 rc, .int .i64 imm] 40) = w2 at B1 I1 ⊢
  obtain ⟨y0, y1, y2, y3, y4⟩ := id I1.out
  go_wp2_with (first
    | (go_at_call 26; refine (load_op B1.out.st hs 13 ra rb rc imm ha hb hi (by omega)).mono ?_; rintro e w9 ⟨C9, rfl, h9, v9, b9⟩)
    | ((with_reducible show wpList _ _ _ (Oper.mk _ (Op.load _ _) _ _ _ _ :: _) _ _); refine wpList_load_if (by rfl) 32 (.tmp 3) rfl w.heap.size 0 rfl C.toList _ (at_range B1.out.at_) Tryd.underlying32 rfl (st_info B1.out.st).2 ?_)
    | ((with_reducible show wpList _ _ _ (Oper.mk _ (Op.store _ _ _) _ _ _ _ :: _) _ _); refine wpList_store_room (w := w) rfl (.tmp 4) (.tmp 28) rfl (w.heap.size + 1) C9 rfl rfl h9 (there_later B1.out.room b9) ?_))
  have TT := Told.call B1.out b9 h9 v9
  exact bodyPost_ret (v := .agg C9) (results_st rfl _ (w.heap.size + 1) (by first | rfl | simp) TT.st _ TT.at_) rfl TT.post
set_option maxRecDepth 100000 in
theorem step_12 {w : World} {C : Array Value} {s : St} (h : IsSt w (.agg C) s) (hs : Small s) (he : s.en = false) (a : Option Addr) (n c : Nat) (ra rb rc : Nat) (imm : Int) (ha : ra < 16) (hb : rb < 16) (hc : rc < 16) (hi : -1073741824 ≤ imm ∧ imm ≤ 1073741824)
    (hF : ∀ W, Below w.heap.size w W → Calls Tryd.prog 24 #[.slice a n c, .int .i64 s.at_] W fun e w' => e = .returned (.tuple #[.agg #[.int .i64 12, .int .i64 ra, .int .i64 rb, .int .i64 rc, .int .i64 imm], .bool true]) ∧ Below W.heap.size W w') :
    Calls Tryd.prog 13 #[.slice a n c, .agg C] w (StPost w C (opZ 12 ra rb rc imm s)) := by
  have B0 : Hid (Boxed w ((w.alloc (.cells C 32)).alloc (.cells noSt 32)) w.heap.size (w.heap.size + 1) C C s) := Boxed.new h _ _
  clear h
  go_enter Tryd.func13, Tryd.ntmps13
  go_upto_region 1 with fail
  rw [noSt_def]
  generalize (w.alloc (.cells C 32)).alloc (.cells noSt 32) = w0 at B0 ⊢
  have HF : Hid (∀ W, Below w0.heap.size w0 W → Calls Tryd.prog 24 #[.slice a n c, .int .i64 s.at_] W fun e w' => e = .returned (.tuple #[.agg #[.int .i64 12, .int .i64 ra, .int .i64 rb, .int .i64 rc, .int .i64 imm], .bool true]) ∧ Below W.heap.size W w') := fun W hW => hF W (bnext B0.out.bel hW)
  clear hF
  obtain ⟨x0, -, -, x22, -, -⟩ := cell_st B0.out
  rw [he] at x22
  go_upto_region 4 with (go_at_call 24; refine (HF.out _ (Below.refl _ _)).mono ?_; rintro e w1 ⟨rfl, hb1⟩; have HB1 : Hid (Below w0.heap.size w0 w1) := hb1)
  have B1 : Hid (Boxed w (w1.alloc (.cells #[.int .i64 12, .int .i64 ra, .int .i64 rb, .int .i64 rc, .int .i64 imm] 40)) w.heap.size (w.heap.size + 1) C C s) := (B0.out.later HB1.out).later ((Below.refl _ _).alloc (Nat.le_refl _) _)
  have I1 : Hid (InsAt (w1.alloc (.cells #[.int .i64 12, .int .i64 ra, .int .i64 rb, .int .i64 rc, .int .i64 imm] 40)) w1.heap.size 12 ra rb rc imm) := InsAt.new _ _ _ _ _ _ _
  have L1 : Hid (w.heap.size + 1 < w1.heap.size) := by have h1 := B0.out.hb; have h2 := HB1.out.size; have h3 := B0.out.hb.2.2.2.2; show _ < _; omega
  clear x0 x22 hb1 HB1 HF B0
  generalize w1.alloc (.cells #[.int .i64 12, .int .i64 ra, .int .i64 rb, .int .i64 rc, .int .i64 imm] 40) = w2 at B1 I1 ⊢
  obtain ⟨y0, y1, y2, y3, y4⟩ := id I1.out
  go_wp2_with (first
    | (go_at_call 27; refine (save_op B1.out.st hs 12 ra rb rc imm ha hb hi (by omega)).mono ?_; rintro e w9 ⟨C9, rfl, h9, v9, b9⟩)
    | ((with_reducible show wpList _ _ _ (Oper.mk _ (Op.load _ _) _ _ _ _ :: _) _ _); refine wpList_load_if (by rfl) 32 (.tmp 3) rfl w.heap.size 0 rfl C.toList _ (at_range B1.out.at_) Tryd.underlying32 rfl (st_info B1.out.st).2 ?_)
    | ((with_reducible show wpList _ _ _ (Oper.mk _ (Op.store _ _ _) _ _ _ _ :: _) _ _); refine wpList_store_room (w := w) rfl (.tmp 4) (.tmp 34) rfl (w.heap.size + 1) C9 rfl rfl h9 (there_later B1.out.room b9) ?_))
  have TT := Told.call B1.out b9 h9 v9
  exact bodyPost_ret (v := .agg C9) (results_st rfl _ (w.heap.size + 1) (by first | rfl | simp) TT.st _ TT.at_) rfl TT.post
set_option maxRecDepth 100000 in
theorem step_14 {w : World} {C : Array Value} {s : St} (h : IsSt w (.agg C) s) (hs : Small s) (he : s.en = false) (a : Option Addr) (n c : Nat) (ra rb rc : Nat) (imm : Int) (ha : ra < 16) (hb : rb < 16) (hc : rc < 16) (hi : -1073741824 ≤ imm ∧ imm ≤ 1073741824)
    (hF : ∀ W, Below w.heap.size w W → Calls Tryd.prog 24 #[.slice a n c, .int .i64 s.at_] W fun e w' => e = .returned (.tuple #[.agg #[.int .i64 14, .int .i64 ra, .int .i64 rb, .int .i64 rc, .int .i64 imm], .bool true]) ∧ Below W.heap.size W w') :
    Calls Tryd.prog 13 #[.slice a n c, .agg C] w (StPost w C (opZ 14 ra rb rc imm s)) := by
  have B0 : Hid (Boxed w ((w.alloc (.cells C 32)).alloc (.cells noSt 32)) w.heap.size (w.heap.size + 1) C C s) := Boxed.new h _ _
  clear h
  go_enter Tryd.func13, Tryd.ntmps13
  go_upto_region 1 with fail
  rw [noSt_def]
  generalize (w.alloc (.cells C 32)).alloc (.cells noSt 32) = w0 at B0 ⊢
  have HF : Hid (∀ W, Below w0.heap.size w0 W → Calls Tryd.prog 24 #[.slice a n c, .int .i64 s.at_] W fun e w' => e = .returned (.tuple #[.agg #[.int .i64 14, .int .i64 ra, .int .i64 rb, .int .i64 rc, .int .i64 imm], .bool true]) ∧ Below W.heap.size W w') := fun W hW => hF W (bnext B0.out.bel hW)
  clear hF
  obtain ⟨x0, -, -, x22, -, -⟩ := cell_st B0.out
  rw [he] at x22
  go_upto_region 4 with (go_at_call 24; refine (HF.out _ (Below.refl _ _)).mono ?_; rintro e w1 ⟨rfl, hb1⟩; have HB1 : Hid (Below w0.heap.size w0 w1) := hb1)
  have B1 : Hid (Boxed w (w1.alloc (.cells #[.int .i64 14, .int .i64 ra, .int .i64 rb, .int .i64 rc, .int .i64 imm] 40)) w.heap.size (w.heap.size + 1) C C s) := (B0.out.later HB1.out).later ((Below.refl _ _).alloc (Nat.le_refl _) _)
  have I1 : Hid (InsAt (w1.alloc (.cells #[.int .i64 14, .int .i64 ra, .int .i64 rb, .int .i64 rc, .int .i64 imm] 40)) w1.heap.size 14 ra rb rc imm) := InsAt.new _ _ _ _ _ _ _
  have L1 : Hid (w.heap.size + 1 < w1.heap.size) := by have h1 := B0.out.hb; have h2 := HB1.out.size; have h3 := B0.out.hb.2.2.2.2; show _ < _; omega
  clear x0 x22 hb1 HB1 HF B0
  generalize w1.alloc (.cells #[.int .i64 14, .int .i64 ra, .int .i64 rb, .int .i64 rc, .int .i64 imm] 40) = w2 at B1 I1 ⊢
  obtain ⟨y0, y1, y2, y3, y4⟩ := id I1.out
  go_wp2_with (first
    | (go_at_call 27; refine (save_op B1.out.st hs 14 ra rb rc imm ha hb hi (by omega)).mono ?_; rintro e w9 ⟨C9, rfl, h9, v9, b9⟩)
    | ((with_reducible show wpList _ _ _ (Oper.mk _ (Op.load _ _) _ _ _ _ :: _) _ _); refine wpList_load_if (by rfl) 32 (.tmp 3) rfl w.heap.size 0 rfl C.toList _ (at_range B1.out.at_) Tryd.underlying32 rfl (st_info B1.out.st).2 ?_)
    | ((with_reducible show wpList _ _ _ (Oper.mk _ (Op.store _ _ _) _ _ _ _ :: _) _ _); refine wpList_store_room (w := w) rfl (.tmp 4) (.tmp 34) rfl (w.heap.size + 1) C9 rfl rfl h9 (there_later B1.out.room b9) ?_))
  have TT := Told.call B1.out b9 h9 v9
  exact bodyPost_ret (v := .agg C9) (results_st rfl _ (w.heap.size + 1) (by first | rfl | simp) TT.st _ TT.at_) rfl TT.post
set_option maxRecDepth 100000 in
theorem step_22 {w : World} {C : Array Value} {s : St} (h : IsSt w (.agg C) s) (hs : Small s) (he : s.en = false) (a : Option Addr) (n c : Nat) (ra rb rc : Nat) (imm : Int) (ha : ra < 16) (hb : rb < 16) (hc : rc < 16) (hi : -1073741824 ≤ imm ∧ imm ≤ 1073741824)
    (hF : ∀ W, Below w.heap.size w W → Calls Tryd.prog 24 #[.slice a n c, .int .i64 s.at_] W fun e w' => e = .returned (.tuple #[.agg #[.int .i64 22, .int .i64 ra, .int .i64 rb, .int .i64 rc, .int .i64 imm], .bool true]) ∧ Below W.heap.size W w') :
    Calls Tryd.prog 13 #[.slice a n c, .agg C] w (StPost w C (opZ 22 ra rb rc imm s)) := by
  have B0 : Hid (Boxed w ((w.alloc (.cells C 32)).alloc (.cells noSt 32)) w.heap.size (w.heap.size + 1) C C s) := Boxed.new h _ _
  clear h
  go_enter Tryd.func13, Tryd.ntmps13
  go_upto_region 1 with fail
  rw [noSt_def]
  generalize (w.alloc (.cells C 32)).alloc (.cells noSt 32) = w0 at B0 ⊢
  have HF : Hid (∀ W, Below w0.heap.size w0 W → Calls Tryd.prog 24 #[.slice a n c, .int .i64 s.at_] W fun e w' => e = .returned (.tuple #[.agg #[.int .i64 22, .int .i64 ra, .int .i64 rb, .int .i64 rc, .int .i64 imm], .bool true]) ∧ Below W.heap.size W w') := fun W hW => hF W (bnext B0.out.bel hW)
  clear hF
  obtain ⟨x0, -, -, x22, -, -⟩ := cell_st B0.out
  rw [he] at x22
  go_upto_region 4 with (go_at_call 24; refine (HF.out _ (Below.refl _ _)).mono ?_; rintro e w1 ⟨rfl, hb1⟩; have HB1 : Hid (Below w0.heap.size w0 w1) := hb1)
  have B1 : Hid (Boxed w (w1.alloc (.cells #[.int .i64 22, .int .i64 ra, .int .i64 rb, .int .i64 rc, .int .i64 imm] 40)) w.heap.size (w.heap.size + 1) C C s) := (B0.out.later HB1.out).later ((Below.refl _ _).alloc (Nat.le_refl _) _)
  have I1 : Hid (InsAt (w1.alloc (.cells #[.int .i64 22, .int .i64 ra, .int .i64 rb, .int .i64 rc, .int .i64 imm] 40)) w1.heap.size 22 ra rb rc imm) := InsAt.new _ _ _ _ _ _ _
  have L1 : Hid (w.heap.size + 1 < w1.heap.size) := by have h1 := B0.out.hb; have h2 := HB1.out.size; have h3 := B0.out.hb.2.2.2.2; show _ < _; omega
  clear x0 x22 hb1 HB1 HF B0
  generalize w1.alloc (.cells #[.int .i64 22, .int .i64 ra, .int .i64 rb, .int .i64 rc, .int .i64 imm] 40) = w2 at B1 I1 ⊢
  obtain ⟨y0, y1, y2, y3, y4⟩ := id I1.out
  go_wp2_with (first
    | (go_at_call 28; refine (in_op B1.out.st hs 22 ra rb rc imm ha rfl).mono ?_; rintro e w9 ⟨C9, rfl, h9, v9, b9⟩)
    | ((with_reducible show wpList _ _ _ (Oper.mk _ (Op.load _ _) _ _ _ _ :: _) _ _); refine wpList_load_if (by rfl) 32 (.tmp 3) rfl w.heap.size 0 rfl C.toList _ (at_range B1.out.at_) Tryd.underlying32 rfl (st_info B1.out.st).2 ?_)
    | ((with_reducible show wpList _ _ _ (Oper.mk _ (Op.store _ _ _) _ _ _ _ :: _) _ _); refine wpList_store_room (w := w) rfl (.tmp 4) (.tmp 39) rfl (w.heap.size + 1) C9 rfl rfl h9 (there_later B1.out.room b9) ?_))
  have TT := Told.call B1.out b9 h9 v9
  exact bodyPost_ret (v := .agg C9) (results_st rfl _ (w.heap.size + 1) (by first | rfl | simp) TT.st _ TT.at_) rfl TT.post
set_option maxRecDepth 100000 in
theorem step_23 {w : World} {C : Array Value} {s : St} (h : IsSt w (.agg C) s) (hs : Small s) (he : s.en = false) (a : Option Addr) (n c : Nat) (ra rb rc : Nat) (imm : Int) (ha : ra < 16) (hb : rb < 16) (hc : rc < 16) (hi : -1073741824 ≤ imm ∧ imm ≤ 1073741824)
    (hF : ∀ W, Below w.heap.size w W → Calls Tryd.prog 24 #[.slice a n c, .int .i64 s.at_] W fun e w' => e = .returned (.tuple #[.agg #[.int .i64 23, .int .i64 ra, .int .i64 rb, .int .i64 rc, .int .i64 imm], .bool true]) ∧ Below W.heap.size W w') :
    Calls Tryd.prog 13 #[.slice a n c, .agg C] w (StPost w C (opZ 23 ra rb rc imm s)) := by
  have B0 : Hid (Boxed w ((w.alloc (.cells C 32)).alloc (.cells noSt 32)) w.heap.size (w.heap.size + 1) C C s) := Boxed.new h _ _
  clear h
  go_enter Tryd.func13, Tryd.ntmps13
  go_upto_region 1 with fail
  rw [noSt_def]
  generalize (w.alloc (.cells C 32)).alloc (.cells noSt 32) = w0 at B0 ⊢
  have HF : Hid (∀ W, Below w0.heap.size w0 W → Calls Tryd.prog 24 #[.slice a n c, .int .i64 s.at_] W fun e w' => e = .returned (.tuple #[.agg #[.int .i64 23, .int .i64 ra, .int .i64 rb, .int .i64 rc, .int .i64 imm], .bool true]) ∧ Below W.heap.size W w') := fun W hW => hF W (bnext B0.out.bel hW)
  clear hF
  obtain ⟨x0, -, -, x22, -, -⟩ := cell_st B0.out
  rw [he] at x22
  go_upto_region 4 with (go_at_call 24; refine (HF.out _ (Below.refl _ _)).mono ?_; rintro e w1 ⟨rfl, hb1⟩; have HB1 : Hid (Below w0.heap.size w0 w1) := hb1)
  have B1 : Hid (Boxed w (w1.alloc (.cells #[.int .i64 23, .int .i64 ra, .int .i64 rb, .int .i64 rc, .int .i64 imm] 40)) w.heap.size (w.heap.size + 1) C C s) := (B0.out.later HB1.out).later ((Below.refl _ _).alloc (Nat.le_refl _) _)
  have I1 : Hid (InsAt (w1.alloc (.cells #[.int .i64 23, .int .i64 ra, .int .i64 rb, .int .i64 rc, .int .i64 imm] 40)) w1.heap.size 23 ra rb rc imm) := InsAt.new _ _ _ _ _ _ _
  have L1 : Hid (w.heap.size + 1 < w1.heap.size) := by have h1 := B0.out.hb; have h2 := HB1.out.size; have h3 := B0.out.hb.2.2.2.2; show _ < _; omega
  clear x0 x22 hb1 HB1 HF B0
  generalize w1.alloc (.cells #[.int .i64 23, .int .i64 ra, .int .i64 rb, .int .i64 rc, .int .i64 imm] 40) = w2 at B1 I1 ⊢
  obtain ⟨y0, y1, y2, y3, y4⟩ := id I1.out
  go_wp2_with (first
    | (go_at_call 29; refine (out_op B1.out.st hs 23 ra rb rc imm ha rfl).mono ?_; rintro e w9 ⟨C9, rfl, h9, v9, b9⟩)
    | ((with_reducible show wpList _ _ _ (Oper.mk _ (Op.load _ _) _ _ _ _ :: _) _ _); refine wpList_load_if (by rfl) 32 (.tmp 3) rfl w.heap.size 0 rfl C.toList _ (at_range B1.out.at_) Tryd.underlying32 rfl (st_info B1.out.st).2 ?_)
    | ((with_reducible show wpList _ _ _ (Oper.mk _ (Op.store _ _ _) _ _ _ _ :: _) _ _); refine wpList_store_room (w := w) rfl (.tmp 4) (.tmp 44) rfl (w.heap.size + 1) C9 rfl rfl h9 (there_later B1.out.room b9) ?_))
  have TT := Told.call B1.out b9 h9 v9
  exact bodyPost_ret (v := .agg C9) (results_st rfl _ (w.heap.size + 1) (by first | rfl | simp) TT.st _ TT.at_) rfl TT.post
set_option maxRecDepth 100000 in
theorem step_15 {w : World} {C : Array Value} {s : St} (h : IsSt w (.agg C) s) (hs : Small s) (he : s.en = false) (a : Option Addr) (n c : Nat) (ra rb rc : Nat) (imm : Int) (ha : ra < 16) (hb : rb < 16) (hc : rc < 16) (hi : -1073741824 ≤ imm ∧ imm ≤ 1073741824)
    (hF : ∀ W, Below w.heap.size w W → Calls Tryd.prog 24 #[.slice a n c, .int .i64 s.at_] W fun e w' => e = .returned (.tuple #[.agg #[.int .i64 15, .int .i64 ra, .int .i64 rb, .int .i64 rc, .int .i64 imm], .bool true]) ∧ Below W.heap.size W w') :
    Calls Tryd.prog 13 #[.slice a n c, .agg C] w (StPost w C (opZ 15 ra rb rc imm s)) := by
  have B0 : Hid (Boxed w ((w.alloc (.cells C 32)).alloc (.cells noSt 32)) w.heap.size (w.heap.size + 1) C C s) := Boxed.new h _ _
  clear h
  go_enter Tryd.func13, Tryd.ntmps13
  go_upto_region 1 with fail
  rw [noSt_def]
  generalize (w.alloc (.cells C 32)).alloc (.cells noSt 32) = w0 at B0 ⊢
  have HF : Hid (∀ W, Below w0.heap.size w0 W → Calls Tryd.prog 24 #[.slice a n c, .int .i64 s.at_] W fun e w' => e = .returned (.tuple #[.agg #[.int .i64 15, .int .i64 ra, .int .i64 rb, .int .i64 rc, .int .i64 imm], .bool true]) ∧ Below W.heap.size W w') := fun W hW => hF W (bnext B0.out.bel hW)
  clear hF
  obtain ⟨x0, -, -, x22, -, -⟩ := cell_st B0.out
  rw [he] at x22
  go_upto_region 4 with (go_at_call 24; refine (HF.out _ (Below.refl _ _)).mono ?_; rintro e w1 ⟨rfl, hb1⟩; have HB1 : Hid (Below w0.heap.size w0 w1) := hb1)
  have B1 : Hid (Boxed w (w1.alloc (.cells #[.int .i64 15, .int .i64 ra, .int .i64 rb, .int .i64 rc, .int .i64 imm] 40)) w.heap.size (w.heap.size + 1) C C s) := (B0.out.later HB1.out).later ((Below.refl _ _).alloc (Nat.le_refl _) _)
  have I1 : Hid (InsAt (w1.alloc (.cells #[.int .i64 15, .int .i64 ra, .int .i64 rb, .int .i64 rc, .int .i64 imm] 40)) w1.heap.size 15 ra rb rc imm) := InsAt.new _ _ _ _ _ _ _
  have L1 : Hid (w.heap.size + 1 < w1.heap.size) := by have h1 := B0.out.hb; have h2 := HB1.out.size; have h3 := B0.out.hb.2.2.2.2; show _ < _; omega
  clear x0 x22 hb1 HB1 HF B0
  generalize w1.alloc (.cells #[.int .i64 15, .int .i64 ra, .int .i64 rb, .int .i64 rc, .int .i64 imm] 40) = w2 at B1 I1 ⊢
  obtain ⟨y0, y1, y2, y3, y4⟩ := id I1.out
  go_wp2_with (first
    | (go_at_call 30; refine (branch_op B1.out.st hs 15 ra rb rc imm ha hb hi (by omega)).mono ?_; rintro e w9 ⟨C9, rfl, h9, v9, b9⟩)
    | ((with_reducible show wpList _ _ _ (Oper.mk _ (Op.load _ _) _ _ _ _ :: _) _ _); refine wpList_load_if (by rfl) 32 (.tmp 3) rfl w.heap.size 0 rfl C.toList _ (at_range B1.out.at_) Tryd.underlying32 rfl (st_info B1.out.st).2 ?_)
    | ((with_reducible show wpList _ _ _ (Oper.mk _ (Op.store _ _ _) _ _ _ _ :: _) _ _); refine wpList_store_room (w := w) rfl (.tmp 4) (.tmp 52) rfl (w.heap.size + 1) C9 rfl rfl h9 (there_later B1.out.room b9) ?_))
  have TT := Told.call B1.out b9 h9 v9
  exact bodyPost_ret (v := .agg C9) (results_st rfl _ (w.heap.size + 1) (by first | rfl | simp) TT.st _ TT.at_) rfl TT.post
set_option maxRecDepth 100000 in
theorem step_16 {w : World} {C : Array Value} {s : St} (h : IsSt w (.agg C) s) (hs : Small s) (he : s.en = false) (a : Option Addr) (n c : Nat) (ra rb rc : Nat) (imm : Int) (ha : ra < 16) (hb : rb < 16) (hc : rc < 16) (hi : -1073741824 ≤ imm ∧ imm ≤ 1073741824)
    (hF : ∀ W, Below w.heap.size w W → Calls Tryd.prog 24 #[.slice a n c, .int .i64 s.at_] W fun e w' => e = .returned (.tuple #[.agg #[.int .i64 16, .int .i64 ra, .int .i64 rb, .int .i64 rc, .int .i64 imm], .bool true]) ∧ Below W.heap.size W w') :
    Calls Tryd.prog 13 #[.slice a n c, .agg C] w (StPost w C (opZ 16 ra rb rc imm s)) := by
  have B0 : Hid (Boxed w ((w.alloc (.cells C 32)).alloc (.cells noSt 32)) w.heap.size (w.heap.size + 1) C C s) := Boxed.new h _ _
  clear h
  go_enter Tryd.func13, Tryd.ntmps13
  go_upto_region 1 with fail
  rw [noSt_def]
  generalize (w.alloc (.cells C 32)).alloc (.cells noSt 32) = w0 at B0 ⊢
  have HF : Hid (∀ W, Below w0.heap.size w0 W → Calls Tryd.prog 24 #[.slice a n c, .int .i64 s.at_] W fun e w' => e = .returned (.tuple #[.agg #[.int .i64 16, .int .i64 ra, .int .i64 rb, .int .i64 rc, .int .i64 imm], .bool true]) ∧ Below W.heap.size W w') := fun W hW => hF W (bnext B0.out.bel hW)
  clear hF
  obtain ⟨x0, -, -, x22, -, -⟩ := cell_st B0.out
  rw [he] at x22
  go_upto_region 4 with (go_at_call 24; refine (HF.out _ (Below.refl _ _)).mono ?_; rintro e w1 ⟨rfl, hb1⟩; have HB1 : Hid (Below w0.heap.size w0 w1) := hb1)
  have B1 : Hid (Boxed w (w1.alloc (.cells #[.int .i64 16, .int .i64 ra, .int .i64 rb, .int .i64 rc, .int .i64 imm] 40)) w.heap.size (w.heap.size + 1) C C s) := (B0.out.later HB1.out).later ((Below.refl _ _).alloc (Nat.le_refl _) _)
  have I1 : Hid (InsAt (w1.alloc (.cells #[.int .i64 16, .int .i64 ra, .int .i64 rb, .int .i64 rc, .int .i64 imm] 40)) w1.heap.size 16 ra rb rc imm) := InsAt.new _ _ _ _ _ _ _
  have L1 : Hid (w.heap.size + 1 < w1.heap.size) := by have h1 := B0.out.hb; have h2 := HB1.out.size; have h3 := B0.out.hb.2.2.2.2; show _ < _; omega
  clear x0 x22 hb1 HB1 HF B0
  generalize w1.alloc (.cells #[.int .i64 16, .int .i64 ra, .int .i64 rb, .int .i64 rc, .int .i64 imm] 40) = w2 at B1 I1 ⊢
  obtain ⟨y0, y1, y2, y3, y4⟩ := id I1.out
  go_wp2_with (first
    | (go_at_call 30; refine (branch_op B1.out.st hs 16 ra rb rc imm ha hb hi (by omega)).mono ?_; rintro e w9 ⟨C9, rfl, h9, v9, b9⟩)
    | ((with_reducible show wpList _ _ _ (Oper.mk _ (Op.load _ _) _ _ _ _ :: _) _ _); refine wpList_load_if (by rfl) 32 (.tmp 3) rfl w.heap.size 0 rfl C.toList _ (at_range B1.out.at_) Tryd.underlying32 rfl (st_info B1.out.st).2 ?_)
    | ((with_reducible show wpList _ _ _ (Oper.mk _ (Op.store _ _ _) _ _ _ _ :: _) _ _); refine wpList_store_room (w := w) rfl (.tmp 4) (.tmp 52) rfl (w.heap.size + 1) C9 rfl rfl h9 (there_later B1.out.room b9) ?_))
  have TT := Told.call B1.out b9 h9 v9
  exact bodyPost_ret (v := .agg C9) (results_st rfl _ (w.heap.size + 1) (by first | rfl | simp) TT.st _ TT.at_) rfl TT.post
end Go.Proofs.YtcibifgbnpcpmaaDoor
