/- What the code's Step returns: where it ends at once. -/
import Derived.Test.YtcibifgbnpcpmaaDoorCpuF
namespace Go.Proofs.YtcibifgbnpcpmaaDoor
open Go.ChangeShapes Go.WideShapes Go.ChangeAt Go.RowKit
set_option linter.unusedVariables false
set_option linter.unusedSimpArgs false
set_option maxRecDepth 100000 in
theorem step_en {w : World} {C : Array Value} {s : St} (h : IsSt w (.agg C) s) (he : s.en = true) (a : Option Addr) (n c : Nat) :
    Calls Tryd.prog 13 #[.slice a n c, .agg C] w (StPost w C s) := by
  have B0 : Hid (Boxed w ((w.alloc (.cells C 32)).alloc (.cells noSt 32)) w.heap.size (w.heap.size + 1) C C s) := Boxed.new h _ _
  clear h
  go_enter Tryd.func13, Tryd.ntmps13
  go_upto_region 1 with fail
  rw [noSt_def]
  generalize (w.alloc (.cells C 32)).alloc (.cells noSt 32) = w0 at B0 ⊢
  obtain ⟨-, -, -, x22, -, -⟩ := cell_st B0.out
  rw [he] at x22
  have TT : Hid (Told w (w0.setCells (w.heap.size + 1) 0 C.toList) (w.heap.size + 1) C C (s)) := Told.same B0.out
  go_wp2_with (first
    | ((with_reducible show wpList _ _ _ (Oper.mk _ (Op.load _ _) _ _ _ _ :: _) _ _); refine wpList_load_if (by rfl) 32 (.tmp 3) rfl w.heap.size 0 rfl C.toList _ (at_range B0.out.at_) Tryd.underlying32 rfl (st_info B0.out.st).2 ?_)
    | ((with_reducible show wpList _ _ _ (Oper.mk _ (Op.store _ _ _) _ _ _ _ :: _) _ _); refine wpList_store_room (w := w) rfl (.tmp 4) (.tmp 9) rfl (w.heap.size + 1) C rfl rfl B0.out.st B0.out.room ?_))
  exact bodyPost_ret (v := .agg C) (results_st rfl _ (w.heap.size + 1) (by first | rfl | simp) TT.out.st _ TT.out.at_) rfl TT.out.post
set_option maxRecDepth 100000 in
theorem step_bad {w : World} {C : Array Value} {s : St} (h : IsSt w (.agg C) s) (he : s.en = false) (a : Option Addr) (n c : Nat)
    (hF : ∀ W, Below w.heap.size w W → Calls Tryd.prog 24 #[.slice a n c, .int .i64 s.at_] W fun e w' => e = .returned (.tuple #[.agg #[.int .i64 0, .int .i64 0, .int .i64 0, .int .i64 0, .int .i64 0], .bool false]) ∧ Below W.heap.size W w') :
    Calls Tryd.prog 13 #[.slice a n c, .agg C] w (StPost w C (s.stop 2)) := by
  have B0 : Hid (Boxed w ((w.alloc (.cells C 32)).alloc (.cells noSt 32)) w.heap.size (w.heap.size + 1) C C s) := Boxed.new h _ _
  clear h
  go_enter Tryd.func13, Tryd.ntmps13
  go_upto_region 1 with fail
  rw [noSt_def]
  generalize (w.alloc (.cells C 32)).alloc (.cells noSt 32) = w0 at B0 ⊢
  have HF : Hid (∀ W, Below w0.heap.size w0 W → Calls Tryd.prog 24 #[.slice a n c, .int .i64 s.at_] W fun e w' => e = .returned (.tuple #[.agg #[.int .i64 0, .int .i64 0, .int .i64 0, .int .i64 0, .int .i64 0], .bool false]) ∧ Below W.heap.size W w') := fun W hW => hF W (bnext B0.out.bel hW)
  clear hF
  obtain ⟨x0, -, -, x22, -, -⟩ := cell_st B0.out
  rw [he] at x22
  go_upto_region 4 with (go_at_call 24; refine (HF.out _ (Below.refl _ _)).mono ?_; rintro e w1 ⟨rfl, hb1⟩; have HB1 : Hid (Below w0.heap.size w0 w1) := hb1)
  have B1 : Hid (Boxed w (w1.alloc (.cells #[.int .i64 0, .int .i64 0, .int .i64 0, .int .i64 0, .int .i64 0] 40)) w.heap.size (w.heap.size + 1) C C s) := (B0.out.later HB1.out).later ((Below.refl _ _).alloc (Nat.le_refl _) _)
  have I1 : Hid (InsAt (w1.alloc (.cells #[.int .i64 0, .int .i64 0, .int .i64 0, .int .i64 0, .int .i64 0] 40)) w1.heap.size 0 0 0 0 0) := InsAt.new _ _ _ _ _ _ _
  have L1 : Hid (w.heap.size + 1 < w1.heap.size) := by have h1 := B0.out.hb; have h2 := HB1.out.size; have h3 := B0.out.hb.2.2.2.2; show _ < _; omega
  clear x0 x22 hb1 HB1 HF B0
  generalize w1.alloc (.cells #[.int .i64 0, .int .i64 0, .int .i64 0, .int .i64 0, .int .i64 0] 40) = w2 at B1 I1 ⊢
  go_wp2_with (first
    | (go_at_call 25; refine (fault_st B1.out.st 2).mono ?_; rintro e w9 ⟨C9, rfl, h9, v9, b9⟩)
    | ((with_reducible show wpList _ _ _ (Oper.mk _ (Op.load _ _) _ _ _ _ :: _) _ _); refine wpList_load_if (by rfl) 32 (.tmp 3) rfl w.heap.size 0 rfl C.toList _ (at_range B1.out.at_) Tryd.underlying32 rfl (st_info B1.out.st).2 ?_)
    | ((with_reducible show wpList _ _ _ (Oper.mk _ (Op.store _ _ _) _ _ _ _ :: _) _ _); refine wpList_store_room (w := w) rfl (.tmp 4) (.tmp 20) rfl (w.heap.size + 1) C9 rfl rfl h9 (there_later B1.out.room b9) ?_))
  have TT := Told.call B1.out b9 h9 v9
  exact bodyPost_ret (v := .agg C9) (results_st rfl _ (w.heap.size + 1) (by first | rfl | simp) TT.st _ TT.at_) rfl TT.post
end Go.Proofs.YtcibifgbnpcpmaaDoor
