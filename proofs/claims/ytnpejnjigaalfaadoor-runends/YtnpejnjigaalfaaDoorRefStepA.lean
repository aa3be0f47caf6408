/- What the document's own Step returns, by the operation. -/
import Derived.Test.YtnpejnjigaalfaaDoorRefStep
namespace Go.Proofs.YtnpejnjigaalfaaDoor
open Go.ChangeShapes Go.WideShapes Go.ChangeAt Go.RowKit
set_option linter.unusedVariables false
set_option linter.unusedSimpArgs false
set_option maxRecDepth 100000 in
set_option maxHeartbeats 1000000 in
theorem rstep_25 {w : World} {C : Array Value} {s : St} (h : IsSt w (.agg C) s) (hs : Small s) (he : s.en = false) (a : Option Addr) (n c : Nat) (f : Nat → Int) (i : Nat) (x : Int) (hn : n ≤ 1000) (hw : RowK .u32 w a n f) (hi : s.at_ = i) (hin : i < n) (hx : f i = x) (ra rb rc : Nat) (imm : Int) (ha : ra < 16) (hb : rb < 16) (hc : rc < 16) (hI : -8388608 ≤ imm ∧ imm ≤ 8388607)
    (hG : ∀ W, Below w.heap.size w W → Calls Tryd.prog 21 #[.int .u32 x] W fun e w' => e = .returned (.tuple #[.agg #[.int .i64 25, .int .i64 ra, .int .i64 rb, .int .i64 rc, .int .i64 imm], .bool true]) ∧ Below W.heap.size W w') :
    Calls Tryd.prog 13 #[.slice a n c, .agg C] w (StPost w C (opZ 25 ra rb rc imm s)) := by
  rw [show opZ 25 ra rb rc imm s = s.stop 1 from by simp [opZ]]
  have B0 : Hid (Boxed w ((w.alloc (.cells C 37)).alloc (.cells noSt 37)) w.heap.size (w.heap.size + 1) C C s) := Boxed.new h _ _
  clear h
  go_enter Tryd.func13, Tryd.ntmps13
  go_upto_region 1 with fail
  rw [noSt_def]
  generalize (w.alloc (.cells C 37)).alloc (.cells noSt 37) = w0 at B0 ⊢
  have HG : Hid (∀ W, Below w0.heap.size w0 W → Calls Tryd.prog 21 #[.int .u32 x] W fun e w' => e = .returned (.tuple #[.agg #[.int .i64 25, .int .i64 ra, .int .i64 rb, .int .i64 rc, .int .i64 imm], .bool true]) ∧ Below W.heap.size W w') := fun W hW => hG W (bnext B0.out.bel hW)
  obtain ⟨-, rfl | ⟨b, off, rfl, hcw⟩⟩ := hw
  · omega
  have xi := cell_later' (hcw i hin) B0.out.bel
  rw [hx] at xi
  have q1 : decide ((i : Int) < 0) = false := by simp
  have q2 : decide (n ≤ i) = false := by simp [hin]
  clear hG hcw hx
  obtain ⟨x0, -, -, x22, -, -⟩ := cell_st B0.out
  rw [he] at x22
  rw [hi] at x0
  go_upto_region 6 with (go_at_call 21; refine (HG.out _ (Below.refl _ _)).mono ?_; rintro e w1 ⟨rfl, hb1⟩; have HB1 : Hid (Below w0.heap.size w0 w1) := hb1)
  have B1 : Hid (Boxed w (w1.alloc (.cells #[.int .i64 25, .int .i64 ra, .int .i64 rb, .int .i64 rc, .int .i64 imm] 54)) w.heap.size (w.heap.size + 1) C C s) := (B0.out.later HB1.out).later ((Below.refl _ _).alloc (Nat.le_refl _) _)
  have I1 : Hid (InsAt (w1.alloc (.cells #[.int .i64 25, .int .i64 ra, .int .i64 rb, .int .i64 rc, .int .i64 imm] 54)) w1.heap.size 25 ra rb rc imm) := InsAt.new _ _ _ _ _ _ _
  have L1 : Hid (w.heap.size + 1 < w1.heap.size) := by have h1 := B0.out.hb; have h2 := HB1.out.size; have h3 := B0.out.hb.2.2.2.2; show _ < _; omega
  clear x0 x22 hb1 HB1 HG B0 xi q1 q2
  generalize w1.alloc (.cells #[.int .i64 25, .int .i64 ra, .int .i64 rb, .int .i64 rc, .int .i64 imm] 54) = w2 at B1 I1 ⊢
  have KD : Hid (∀ W, Calls Tryd.prog 22 #[.agg #[.int .i64 25, .int .i64 ra, .int .i64 rb, .int .i64 rc, .int .i64 imm]] W fun e w' => e = .returned (.int .i64 5) ∧ Below W.heap.size W w') := fun W => by have h := rkind_any 25 ra rb rc imm W (by omega) (by omega); rwa [show kindZ 25 = 5 from by decide] at h
  obtain ⟨y0, y1, y2, y3, y4⟩ := id I1.out
  obtain ⟨x0, xr, -⟩ := cell_st B1.out
  rw [hi] at x0
  have xa := xr ra ha
  have xa' : w2.cell? ⟨w.heap.size, ra + 1, none⟩ = some (.int .u32 (s.r ra)) := by rw [Nat.add_comm]; exact xa
  have xb := xr rb hb
  have xb' : w2.cell? ⟨w.heap.size, rb + 1, none⟩ = some (.int .u32 (s.r rb)) := by rw [Nat.add_comm]; exact xb
  have ha' : (ra : Int) < 16 := by omega
  have hb' : (rb : Int) < 16 := by omega
  clear xr
  go_upto_region 11 with (go_at_call 22; refine (KD.out _).mono ?_; rintro e w3 ⟨rfl, hb3⟩)
  have B3 : Hid (Boxed w w3 w.heap.size (w.heap.size + 1) C C s) := B1.out.later hb3
  have I3 : Hid (InsAt w3 w1.heap.size 25 ra rb rc imm) := I1.out.later hb3
  have z0 := cell_later' x0 hb3
  clear y0 y1 y2 y3 y4 x0 xa xa' xb xb' hb3 KD B1 I1
  obtain ⟨y0, y1, y2, y3, y4⟩ := id I3.out
  go_wp2_with (first
    | (go_at_call 20; refine (rend_st B3.out.st 1).mono ?_; rintro e w9 ⟨C9, rfl, h9, v9, b9⟩)
    | ((with_reducible show wpList _ _ _ (Oper.mk _ (Op.load _ _) _ _ _ _ :: _) _ _); refine wpList_load_if (by rfl) 37 (.tmp 3) rfl w.heap.size 0 rfl C.toList _ (at_range B3.out.at_) Tryd.underlying37 rfl (st_info B3.out.st).2 ?_)
    | ((with_reducible show wpList _ _ _ (Oper.mk _ (Op.store _ _ _) _ _ _ _ :: _) _ _); refine wpList_store_room (w := w) rfl (.tmp 4) (.tmp 70) rfl (w.heap.size + 1) C9 rfl rfl h9 (there_later B3.out.room b9) ?_))
  have TT := Told.call B3.out b9 h9 v9
  exact bodyPost_ret (v := .agg C9) (results_st rfl _ (w.heap.size + 1) (by first | rfl | simp) TT.st _ TT.at_) rfl TT.post
set_option maxRecDepth 100000 in
set_option maxHeartbeats 1000000 in
theorem rstep_0 {w : World} {C : Array Value} {s : St} (h : IsSt w (.agg C) s) (hs : Small s) (he : s.en = false) (a : Option Addr) (n c : Nat) (f : Nat → Int) (i : Nat) (x : Int) (hn : n ≤ 1000) (hw : RowK .u32 w a n f) (hi : s.at_ = i) (hin : i < n) (hx : f i = x) (ra rb rc : Nat) (imm : Int) (ha : ra < 16) (hb : rb < 16) (hc : rc < 16) (hI : -8388608 ≤ imm ∧ imm ≤ 8388607)
    (hG : ∀ W, Below w.heap.size w W → Calls Tryd.prog 21 #[.int .u32 x] W fun e w' => e = .returned (.tuple #[.agg #[.int .i64 0, .int .i64 ra, .int .i64 rb, .int .i64 rc, .int .i64 imm], .bool true]) ∧ Below W.heap.size W w') :
    Calls Tryd.prog 13 #[.slice a n c, .agg C] w (StPost w C (opZ 0 ra rb rc imm s)) := by
  rw [show opZ 0 ra rb rc imm s = ({ s with cd := s.r ra } : St).stop 0 from by simp [opZ, St.stop]]
  have B0 : Hid (Boxed w ((w.alloc (.cells C 37)).alloc (.cells noSt 37)) w.heap.size (w.heap.size + 1) C C s) := Boxed.new h _ _
  clear h
  go_enter Tryd.func13, Tryd.ntmps13
  go_upto_region 1 with fail
  rw [noSt_def]
  generalize (w.alloc (.cells C 37)).alloc (.cells noSt 37) = w0 at B0 ⊢
  have HG : Hid (∀ W, Below w0.heap.size w0 W → Calls Tryd.prog 21 #[.int .u32 x] W fun e w' => e = .returned (.tuple #[.agg #[.int .i64 0, .int .i64 ra, .int .i64 rb, .int .i64 rc, .int .i64 imm], .bool true]) ∧ Below W.heap.size W w') := fun W hW => hG W (bnext B0.out.bel hW)
  obtain ⟨-, rfl | ⟨b, off, rfl, hcw⟩⟩ := hw
  · omega
  have xi := cell_later' (hcw i hin) B0.out.bel
  rw [hx] at xi
  have q1 : decide ((i : Int) < 0) = false := by simp
  have q2 : decide (n ≤ i) = false := by simp [hin]
  clear hG hcw hx
  obtain ⟨x0, -, -, x22, -, -⟩ := cell_st B0.out
  rw [he] at x22
  rw [hi] at x0
  go_upto_region 6 with (go_at_call 21; refine (HG.out _ (Below.refl _ _)).mono ?_; rintro e w1 ⟨rfl, hb1⟩; have HB1 : Hid (Below w0.heap.size w0 w1) := hb1)
  have B1 : Hid (Boxed w (w1.alloc (.cells #[.int .i64 0, .int .i64 ra, .int .i64 rb, .int .i64 rc, .int .i64 imm] 54)) w.heap.size (w.heap.size + 1) C C s) := (B0.out.later HB1.out).later ((Below.refl _ _).alloc (Nat.le_refl _) _)
  have I1 : Hid (InsAt (w1.alloc (.cells #[.int .i64 0, .int .i64 ra, .int .i64 rb, .int .i64 rc, .int .i64 imm] 54)) w1.heap.size 0 ra rb rc imm) := InsAt.new _ _ _ _ _ _ _
  have L1 : Hid (w.heap.size + 1 < w1.heap.size) := by have h1 := B0.out.hb; have h2 := HB1.out.size; have h3 := B0.out.hb.2.2.2.2; show _ < _; omega
  clear x0 x22 hb1 HB1 HG B0 xi q1 q2
  generalize w1.alloc (.cells #[.int .i64 0, .int .i64 ra, .int .i64 rb, .int .i64 rc, .int .i64 imm] 54) = w2 at B1 I1 ⊢
  have KD : Hid (∀ W, Calls Tryd.prog 22 #[.agg #[.int .i64 0, .int .i64 ra, .int .i64 rb, .int .i64 rc, .int .i64 imm]] W fun e w' => e = .returned (.int .i64 5) ∧ Below W.heap.size W w') := fun W => by have h := rkind_any 0 ra rb rc imm W (by omega) (by omega); rwa [show kindZ 0 = 5 from by decide] at h
  obtain ⟨y0, y1, y2, y3, y4⟩ := id I1.out
  obtain ⟨x0, xr, -⟩ := cell_st B1.out
  rw [hi] at x0
  have xa := xr ra ha
  have xa' : w2.cell? ⟨w.heap.size, ra + 1, none⟩ = some (.int .u32 (s.r ra)) := by rw [Nat.add_comm]; exact xa
  have xb := xr rb hb
  have xb' : w2.cell? ⟨w.heap.size, rb + 1, none⟩ = some (.int .u32 (s.r rb)) := by rw [Nat.add_comm]; exact xb
  have ha' : (ra : Int) < 16 := by omega
  have hb' : (rb : Int) < 16 := by omega
  clear xr
  go_upto_region 11 with (go_at_call 22; refine (KD.out _).mono ?_; rintro e w3 ⟨rfl, hb3⟩)
  have B3 : Hid (Boxed w w3 w.heap.size (w.heap.size + 1) C C s) := B1.out.later hb3
  have I3 : Hid (InsAt w3 w1.heap.size 0 ra rb rc imm) := I1.out.later hb3
  have z0 := cell_later' x0 hb3
  clear y0 y1 y2 y3 y4 x0 xa xa' xb xb' hb3 KD B1 I1
  obtain ⟨y0, y1, y2, y3, y4⟩ := id I3.out
  have x23 := (cell_st B3.out).2.2.2.2.1
  have f23 : w3.frozen? ⟨w.heap.size, 23, none⟩ = false := B3.out.fz 23
  go_upto_region 14 with fail
  have B4 : Hid (Boxed w (w3.setCell ⟨w.heap.size, 23, none⟩ (.int .u32 (s.r ra))) w.heap.size (w.heap.size + 1) C (C.setIfInBounds 23 (.int .u32 (s.r ra))) { s with cd := s.r ra }) := B3.out.put 23 (by omega) _ (fun g _ => off_int _ _ _) (put_cd B3.out.st _)
  clear x23 f23 y0 y1 y2 y3 y4 z0 B3 I3
  generalize w3.setCell ⟨w.heap.size, 23, none⟩ (.int .u32 (s.r ra)) = w4 at B4 ⊢
  generalize C.setIfInBounds 23 (.int .u32 (s.r ra)) = C4 at B4
  go_wp2_with (first
    | (go_at_call 20; refine (rend_st B4.out.st 0).mono ?_; rintro e w9 ⟨C9, rfl, h9, v9, b9⟩)
    | ((with_reducible show wpList _ _ _ (Oper.mk _ (Op.load _ _) _ _ _ _ :: _) _ _); refine wpList_load_if (by rfl) 37 (.tmp 3) rfl w.heap.size 0 rfl C4.toList _ (at_range B4.out.at_) Tryd.underlying37 rfl (st_info B4.out.st).2 ?_)
    | ((with_reducible show wpList _ _ _ (Oper.mk _ (Op.store _ _ _) _ _ _ _ :: _) _ _); refine wpList_store_room (w := w) rfl (.tmp 4) (.tmp 65) rfl (w.heap.size + 1) C9 rfl rfl h9 (there_later B4.out.room b9) ?_))
  have TT := Told.call B4.out b9 h9 v9
  exact bodyPost_ret (v := .agg C9) (results_st rfl _ (w.heap.size + 1) (by first | rfl | simp) TT.st _ TT.at_) rfl TT.post
set_option maxRecDepth 100000 in
set_option maxHeartbeats 1000000 in
theorem rstep_21_no {w : World} {C : Array Value} {s : St} (h : IsSt w (.agg C) s) (hs : Small s) (he : s.en = false) (a : Option Addr) (n c : Nat) (f : Nat → Int) (i : Nat) (x : Int) (hn : n ≤ 1000) (hw : RowK .u32 w a n f) (hi : s.at_ = i) (hin : i < n) (hx : f i = x) (ra rb rc : Nat) (imm : Int) (ha : ra < 16) (hb : rb < 16) (hc : rc < 16) (hI : -8388608 ≤ imm ∧ imm ≤ 8388607) (hbn : s.bn = 0)
    (hG : ∀ W, Below w.heap.size w W → Calls Tryd.prog 21 #[.int .u32 x] W fun e w' => e = .returned (.tuple #[.agg #[.int .i64 21, .int .i64 ra, .int .i64 rb, .int .i64 rc, .int .i64 imm], .bool true]) ∧ Below W.heap.size W w') :
    Calls Tryd.prog 13 #[.slice a n c, .agg C] w (StPost w C (opZ 21 ra rb rc imm s)) := by
  rw [show opZ 21 ra rb rc imm s = s.stop 5 from by simp [opZ, hbn]]
  have B0 : Hid (Boxed w ((w.alloc (.cells C 37)).alloc (.cells noSt 37)) w.heap.size (w.heap.size + 1) C C s) := Boxed.new h _ _
  clear h
  go_enter Tryd.func13, Tryd.ntmps13
  go_upto_region 1 with fail
  rw [noSt_def]
  generalize (w.alloc (.cells C 37)).alloc (.cells noSt 37) = w0 at B0 ⊢
  have HG : Hid (∀ W, Below w0.heap.size w0 W → Calls Tryd.prog 21 #[.int .u32 x] W fun e w' => e = .returned (.tuple #[.agg #[.int .i64 21, .int .i64 ra, .int .i64 rb, .int .i64 rc, .int .i64 imm], .bool true]) ∧ Below W.heap.size W w') := fun W hW => hG W (bnext B0.out.bel hW)
  obtain ⟨-, rfl | ⟨b, off, rfl, hcw⟩⟩ := hw
  · omega
  have xi := cell_later' (hcw i hin) B0.out.bel
  rw [hx] at xi
  have q1 : decide ((i : Int) < 0) = false := by simp
  have q2 : decide (n ≤ i) = false := by simp [hin]
  clear hG hcw hx
  obtain ⟨x0, -, -, x22, -, -⟩ := cell_st B0.out
  rw [he] at x22
  rw [hi] at x0
  go_upto_region 6 with (go_at_call 21; refine (HG.out _ (Below.refl _ _)).mono ?_; rintro e w1 ⟨rfl, hb1⟩; have HB1 : Hid (Below w0.heap.size w0 w1) := hb1)
  have B1 : Hid (Boxed w (w1.alloc (.cells #[.int .i64 21, .int .i64 ra, .int .i64 rb, .int .i64 rc, .int .i64 imm] 54)) w.heap.size (w.heap.size + 1) C C s) := (B0.out.later HB1.out).later ((Below.refl _ _).alloc (Nat.le_refl _) _)
  have I1 : Hid (InsAt (w1.alloc (.cells #[.int .i64 21, .int .i64 ra, .int .i64 rb, .int .i64 rc, .int .i64 imm] 54)) w1.heap.size 21 ra rb rc imm) := InsAt.new _ _ _ _ _ _ _
  have L1 : Hid (w.heap.size + 1 < w1.heap.size) := by have h1 := B0.out.hb; have h2 := HB1.out.size; have h3 := B0.out.hb.2.2.2.2; show _ < _; omega
  clear x0 x22 hb1 HB1 HG B0 xi q1 q2
  generalize w1.alloc (.cells #[.int .i64 21, .int .i64 ra, .int .i64 rb, .int .i64 rc, .int .i64 imm] 54) = w2 at B1 I1 ⊢
  have KD : Hid (∀ W, Calls Tryd.prog 22 #[.agg #[.int .i64 21, .int .i64 ra, .int .i64 rb, .int .i64 rc, .int .i64 imm]] W fun e w' => e = .returned (.int .i64 5) ∧ Below W.heap.size W w') := fun W => by have h := rkind_any 21 ra rb rc imm W (by omega) (by omega); rwa [show kindZ 21 = 5 from by decide] at h
  obtain ⟨y0, y1, y2, y3, y4⟩ := id I1.out
  obtain ⟨x0, xr, -⟩ := cell_st B1.out
  rw [hi] at x0
  have xa := xr ra ha
  have xa' : w2.cell? ⟨w.heap.size, ra + 1, none⟩ = some (.int .u32 (s.r ra)) := by rw [Nat.add_comm]; exact xa
  have xb := xr rb hb
  have xb' : w2.cell? ⟨w.heap.size, rb + 1, none⟩ = some (.int .u32 (s.r rb)) := by rw [Nat.add_comm]; exact xb
  have ha' : (ra : Int) < 16 := by omega
  have hb' : (rb : Int) < 16 := by omega
  clear xr
  go_upto_region 11 with (go_at_call 22; refine (KD.out _).mono ?_; rintro e w3 ⟨rfl, hb3⟩)
  have B3 : Hid (Boxed w w3 w.heap.size (w.heap.size + 1) C C s) := B1.out.later hb3
  have I3 : Hid (InsAt w3 w1.heap.size 21 ra rb rc imm) := I1.out.later hb3
  have z0 := cell_later' x0 hb3
  clear y0 y1 y2 y3 y4 x0 xa xa' xb xb' hb3 KD B1 I1
  obtain ⟨y0, y1, y2, y3, y4⟩ := id I3.out
  obtain ⟨ba, bc, ma, mc, ia, ic, oa, oc, ⟨x17, -⟩, -⟩ := list_st B3.out
  rw [hbn] at x17
  go_wp2_with (first
    | (go_at_call 20; refine (rend_st B3.out.st 5).mono ?_; rintro e w9 ⟨C9, rfl, h9, v9, b9⟩)
    | ((with_reducible show wpList _ _ _ (Oper.mk _ (Op.load _ _) _ _ _ _ :: _) _ _); refine wpList_load_if (by rfl) 37 (.tmp 3) rfl w.heap.size 0 rfl C.toList _ (at_range B3.out.at_) Tryd.underlying37 rfl (st_info B3.out.st).2 ?_)
    | ((with_reducible show wpList _ _ _ (Oper.mk _ (Op.store _ _ _) _ _ _ _ :: _) _ _); refine wpList_store_room (w := w) rfl (.tmp 4) (.tmp 79) rfl (w.heap.size + 1) C9 rfl rfl h9 (there_later B3.out.room b9) ?_))
  have TT := Told.call B3.out b9 h9 v9
  exact bodyPost_ret (v := .agg C9) (results_st rfl _ (w.heap.size + 1) (by first | rfl | simp) TT.st _ TT.at_) rfl TT.post
set_option maxRecDepth 100000 in
set_option maxHeartbeats 1000000 in
theorem rstep_21_yes {w : World} {C : Array Value} {s : St} (h : IsSt w (.agg C) s) (hs : Small s) (he : s.en = false) (a : Option Addr) (n c : Nat) (f : Nat → Int) (i : Nat) (x : Int) (hn : n ≤ 1000) (hw : RowK .u32 w a n f) (hi : s.at_ = i) (hin : i < n) (hx : f i = x) (ra rb rc : Nat) (imm : Int) (ha : ra < 16) (hb : rb < 16) (hc : rc < 16) (hI : -8388608 ≤ imm ∧ imm ≤ 8388607) (m : Nat) (hbn : s.bn = m + 1)
    (hG : ∀ W, Below w.heap.size w W → Calls Tryd.prog 21 #[.int .u32 x] W fun e w' => e = .returned (.tuple #[.agg #[.int .i64 21, .int .i64 ra, .int .i64 rb, .int .i64 rc, .int .i64 imm], .bool true]) ∧ Below W.heap.size W w') :
    Calls Tryd.prog 13 #[.slice a n c, .agg C] w (StPost w C (opZ 21 ra rb rc imm s)) := by
  rw [show opZ 21 ra rb rc imm s = { s with at_ := s.bf m, bn := m } from by simp [opZ, hbn]]
  have B0 : Hid (Boxed w ((w.alloc (.cells C 37)).alloc (.cells noSt 37)) w.heap.size (w.heap.size + 1) C C s) := Boxed.new h _ _
  clear h
  go_enter Tryd.func13, Tryd.ntmps13
  go_upto_region 1 with fail
  rw [noSt_def]
  generalize (w.alloc (.cells C 37)).alloc (.cells noSt 37) = w0 at B0 ⊢
  have HG : Hid (∀ W, Below w0.heap.size w0 W → Calls Tryd.prog 21 #[.int .u32 x] W fun e w' => e = .returned (.tuple #[.agg #[.int .i64 21, .int .i64 ra, .int .i64 rb, .int .i64 rc, .int .i64 imm], .bool true]) ∧ Below W.heap.size W w') := fun W hW => hG W (bnext B0.out.bel hW)
  obtain ⟨-, rfl | ⟨b, off, rfl, hcw⟩⟩ := hw
  · omega
  have xi := cell_later' (hcw i hin) B0.out.bel
  rw [hx] at xi
  have q1 : decide ((i : Int) < 0) = false := by simp
  have q2 : decide (n ≤ i) = false := by simp [hin]
  clear hG hcw hx
  obtain ⟨x0, -, -, x22, -, -⟩ := cell_st B0.out
  rw [he] at x22
  rw [hi] at x0
  go_upto_region 6 with (go_at_call 21; refine (HG.out _ (Below.refl _ _)).mono ?_; rintro e w1 ⟨rfl, hb1⟩; have HB1 : Hid (Below w0.heap.size w0 w1) := hb1)
  have B1 : Hid (Boxed w (w1.alloc (.cells #[.int .i64 21, .int .i64 ra, .int .i64 rb, .int .i64 rc, .int .i64 imm] 54)) w.heap.size (w.heap.size + 1) C C s) := (B0.out.later HB1.out).later ((Below.refl _ _).alloc (Nat.le_refl _) _)
  have I1 : Hid (InsAt (w1.alloc (.cells #[.int .i64 21, .int .i64 ra, .int .i64 rb, .int .i64 rc, .int .i64 imm] 54)) w1.heap.size 21 ra rb rc imm) := InsAt.new _ _ _ _ _ _ _
  have L1 : Hid (w.heap.size + 1 < w1.heap.size) := by have h1 := B0.out.hb; have h2 := HB1.out.size; have h3 := B0.out.hb.2.2.2.2; show _ < _; omega
  clear x0 x22 hb1 HB1 HG B0 xi q1 q2
  generalize w1.alloc (.cells #[.int .i64 21, .int .i64 ra, .int .i64 rb, .int .i64 rc, .int .i64 imm] 54) = w2 at B1 I1 ⊢
  have KD : Hid (∀ W, Calls Tryd.prog 22 #[.agg #[.int .i64 21, .int .i64 ra, .int .i64 rb, .int .i64 rc, .int .i64 imm]] W fun e w' => e = .returned (.int .i64 5) ∧ Below W.heap.size W w') := fun W => by have h := rkind_any 21 ra rb rc imm W (by omega) (by omega); rwa [show kindZ 21 = 5 from by decide] at h
  obtain ⟨y0, y1, y2, y3, y4⟩ := id I1.out
  obtain ⟨x0, xr, -⟩ := cell_st B1.out
  rw [hi] at x0
  have xa := xr ra ha
  have xa' : w2.cell? ⟨w.heap.size, ra + 1, none⟩ = some (.int .u32 (s.r ra)) := by rw [Nat.add_comm]; exact xa
  have xb := xr rb hb
  have xb' : w2.cell? ⟨w.heap.size, rb + 1, none⟩ = some (.int .u32 (s.r rb)) := by rw [Nat.add_comm]; exact xb
  have ha' : (ra : Int) < 16 := by omega
  have hb' : (rb : Int) < 16 := by omega
  clear xr
  go_upto_region 11 with (go_at_call 22; refine (KD.out _).mono ?_; rintro e w3 ⟨rfl, hb3⟩)
  have B3 : Hid (Boxed w w3 w.heap.size (w.heap.size + 1) C C s) := B1.out.later hb3
  have I3 : Hid (InsAt w3 w1.heap.size 21 ra rb rc imm) := I1.out.later hb3
  have z0 := cell_later' x0 hb3
  clear y0 y1 y2 y3 y4 x0 xa xa' xb xb' hb3 KD B1 I1
  obtain ⟨y0, y1, y2, y3, y4⟩ := id I3.out
  have hm : m ≤ 10000 := by have := hs.2.2.1.1; omega
  obtain ⟨ba, bc, ma, mc, ia, ic, oa, oc, ⟨x17, -⟩, ⟨hd, -, hcc⟩, -⟩ := list_st B3.out
  rw [hbn] at x17 hd hcc
  obtain h0 | ⟨g, og, rfl, hcell⟩ := hcc
  · omega
  have xc := hcell m (by omega)
  have f0 : w3.frozen? ⟨w.heap.size, 0, none⟩ = false := B3.out.fz 0
  clear hcell hd
  go_upto_region 21 with fail
  have B4 : Hid (Boxed w (w3.setCell ⟨w.heap.size, 0, none⟩ (.int .i64 (s.bf m))) w.heap.size (w.heap.size + 1) C (C.setIfInBounds 0 (.int .i64 (s.bf m))) { s with at_ := s.bf m }) := B3.out.put 0 (by omega) _ (fun g _ => off_int _ _ _) (st_at B3.out.st _)
  clear x17 xc f0 y0 y1 y2 y3 y4 z0 B3 I3
  generalize w3.setCell ⟨w.heap.size, 0, none⟩ (.int .i64 (s.bf m)) = w4 at B4 ⊢
  generalize C.setIfInBounds 0 (.int .i64 (s.bf m)) = C4 at B4
  obtain ⟨ba, bc, ma, mc, ia, ic, oa, oc, ⟨x17, -⟩, ⟨hd, hf, hcc⟩, -⟩ := list_st B4.out
  simp only [hbn] at x17 hd hcc
  obtain h0 | ⟨g, og, rfl, hcell⟩ := hcc
  · omega
  have hR : RowK .i64 w4 (some ⟨g, og, none⟩) m s.bf := ⟨hf, .inr ⟨g, og, rfl, fun i hi => hcell i (by omega)⟩⟩
  have HRC : Hid (∀ ad, some (⟨g, og, none⟩ : Addr) = some ad → ∀ j u, (cellsK .i64 m s.bf)[j]? = some u → w4.cell? (ad.add j) = some u) := row_cells hR
  have f17 : w4.frozen? ⟨w.heap.size, 17, none⟩ = false := B4.out.fz 17
  have hmc : m ≤ bc := by have := hd.1; omega
  have HF : Hid (∀ j, (Lit.int .i64 (s.bf j)).wf = true) := hf
  clear hR hcell hd hf
  have lt4 : w.heap.size < w4.heap.size := B4.out.hb.2.2.2.1
  go_upto_region 22 with (at_builtin; refine wpList_append_fresh w4 rfl (.tmp 89) (.tmp 96) 33 rfl 3 (.int .i64 0) 8 Tryd.underlying33 infoI rfl rfl (some ⟨g, og, none⟩) m bc (cellsK .i64 m s.bf) rfl (cellsK_len _ _ _) (fun e => by cases e) HRC.out (cellsK_one _ _ _) (by unfold maxLen; omega) (by omega) ?_; intro a5 c5 w5 own5 hb5; have x17' := cell_later' x17 hb5; have f17' : w5.frozen? ⟨w.heap.size, 17, none⟩ = false := (B4.out.later hb5).fz 17)
  have B5 : Hid (Boxed w (w5.setCell ⟨w.heap.size, 17, none⟩ (.slice a5 m c5)) w.heap.size (w.heap.size + 1) C (C4.setIfInBounds 17 (.slice a5 m c5)) { s with at_ := s.bf m, bn := m }) :=
    (B4.out.later hb5).put 17 (by omega) _ (fun g hg => off_new (own_blk own5) (by have := B4.out.hb; have := B4.out.bel.size; omega)) (put_bk (B4.out.later hb5).st a5 m c5 s.bf (own_ints own5 HF.out))
  clear x17 f17 x17' f17' own5 hb5 B4 HRC HF
  generalize w5.setCell ⟨w.heap.size, 17, none⟩ (.slice a5 m c5) = w6 at B5 ⊢
  generalize C4.setIfInBounds 17 (.slice a5 m c5) = C6 at B5
  have TT : Hid (Told w (w6.setCells (w.heap.size + 1) 0 C6.toList) (w.heap.size + 1) C C6 ({ s with at_ := s.bf m, bn := m })) := Told.same B5.out
  go_wp2_with (first
    | ((with_reducible show wpList _ _ _ (Oper.mk _ (Op.load _ _) _ _ _ _ :: _) _ _); refine wpList_load_if (by rfl) 37 (.tmp 3) rfl w.heap.size 0 rfl C6.toList _ (at_range B5.out.at_) Tryd.underlying37 rfl (st_info B5.out.st).2 ?_)
    | ((with_reducible show wpList _ _ _ (Oper.mk _ (Op.store _ _ _) _ _ _ _ :: _) _ _); refine wpList_store_room (w := w) rfl (.tmp 4) (.tmp 99) rfl (w.heap.size + 1) C6 rfl rfl B5.out.st B5.out.room ?_))
  exact bodyPost_ret (v := .agg C6) (results_st rfl _ (w.heap.size + 1) (by first | rfl | simp) TT.out.st _ TT.out.at_) rfl TT.out.post
set_option maxRecDepth 100000 in
set_option maxHeartbeats 1000000 in
theorem rstep_24 {w : World} {C : Array Value} {s : St} (h : IsSt w (.agg C) s) (hs : Small s) (he : s.en = false) (a : Option Addr) (n c : Nat) (f : Nat → Int) (i : Nat) (x : Int) (hn : n ≤ 1000) (hw : RowK .u32 w a n f) (hi : s.at_ = i) (hin : i < n) (hx : f i = x) (ra rb rc : Nat) (imm : Int) (ha : ra < 16) (hb : rb < 16) (hc : rc < 16) (hI : -8388608 ≤ imm ∧ imm ≤ 8388607)
    (hG : ∀ W, Below w.heap.size w W → Calls Tryd.prog 21 #[.int .u32 x] W fun e w' => e = .returned (.tuple #[.agg #[.int .i64 24, .int .i64 ra, .int .i64 rb, .int .i64 rc, .int .i64 imm], .bool true]) ∧ Below W.heap.size W w') :
    Calls Tryd.prog 13 #[.slice a n c, .agg C] w (StPost w C (opZ 24 ra rb rc imm s)) := by
  have B0 : Hid (Boxed w ((w.alloc (.cells C 37)).alloc (.cells noSt 37)) w.heap.size (w.heap.size + 1) C C s) := Boxed.new h _ _
  clear h
  go_enter Tryd.func13, Tryd.ntmps13
  go_upto_region 1 with fail
  rw [noSt_def]
  generalize (w.alloc (.cells C 37)).alloc (.cells noSt 37) = w0 at B0 ⊢
  have HG : Hid (∀ W, Below w0.heap.size w0 W → Calls Tryd.prog 21 #[.int .u32 x] W fun e w' => e = .returned (.tuple #[.agg #[.int .i64 24, .int .i64 ra, .int .i64 rb, .int .i64 rc, .int .i64 imm], .bool true]) ∧ Below W.heap.size W w') := fun W hW => hG W (bnext B0.out.bel hW)
  obtain ⟨-, rfl | ⟨b, off, rfl, hcw⟩⟩ := hw
  · omega
  have xi := cell_later' (hcw i hin) B0.out.bel
  rw [hx] at xi
  have q1 : decide ((i : Int) < 0) = false := by simp
  have q2 : decide (n ≤ i) = false := by simp [hin]
  clear hG hcw hx
  obtain ⟨x0, -, -, x22, -, -⟩ := cell_st B0.out
  rw [he] at x22
  rw [hi] at x0
  go_upto_region 6 with (go_at_call 21; refine (HG.out _ (Below.refl _ _)).mono ?_; rintro e w1 ⟨rfl, hb1⟩; have HB1 : Hid (Below w0.heap.size w0 w1) := hb1)
  have B1 : Hid (Boxed w (w1.alloc (.cells #[.int .i64 24, .int .i64 ra, .int .i64 rb, .int .i64 rc, .int .i64 imm] 54)) w.heap.size (w.heap.size + 1) C C s) := (B0.out.later HB1.out).later ((Below.refl _ _).alloc (Nat.le_refl _) _)
  have I1 : Hid (InsAt (w1.alloc (.cells #[.int .i64 24, .int .i64 ra, .int .i64 rb, .int .i64 rc, .int .i64 imm] 54)) w1.heap.size 24 ra rb rc imm) := InsAt.new _ _ _ _ _ _ _
  have L1 : Hid (w.heap.size + 1 < w1.heap.size) := by have h1 := B0.out.hb; have h2 := HB1.out.size; have h3 := B0.out.hb.2.2.2.2; show _ < _; omega
  clear x0 x22 hb1 HB1 HG B0 xi q1 q2
  generalize w1.alloc (.cells #[.int .i64 24, .int .i64 ra, .int .i64 rb, .int .i64 rc, .int .i64 imm] 54) = w2 at B1 I1 ⊢
  have KD : Hid (∀ W, Calls Tryd.prog 22 #[.agg #[.int .i64 24, .int .i64 ra, .int .i64 rb, .int .i64 rc, .int .i64 imm]] W fun e w' => e = .returned (.int .i64 0) ∧ Below W.heap.size W w') := fun W => by have h := rkind_any 24 ra rb rc imm W (by omega) (by omega); rwa [show kindZ 24 = 0 from by decide] at h
  obtain ⟨y0, y1, y2, y3, y4⟩ := id I1.out
  obtain ⟨x0, xr, -⟩ := cell_st B1.out
  rw [hi] at x0
  have xa := xr ra ha
  have xa' : w2.cell? ⟨w.heap.size, ra + 1, none⟩ = some (.int .u32 (s.r ra)) := by rw [Nat.add_comm]; exact xa
  have xb := xr rb hb
  have xb' : w2.cell? ⟨w.heap.size, rb + 1, none⟩ = some (.int .u32 (s.r rb)) := by rw [Nat.add_comm]; exact xb
  have ha' : (ra : Int) < 16 := by omega
  have hb' : (rb : Int) < 16 := by omega
  clear xr
  go_upto_region 11 with (go_at_call 22; refine (KD.out _).mono ?_; rintro e w3 ⟨rfl, hb3⟩)
  have B3 : Hid (Boxed w w3 w.heap.size (w.heap.size + 1) C C s) := B1.out.later hb3
  have I3 : Hid (InsAt w3 w1.heap.size 24 ra rb rc imm) := I1.out.later hb3
  have z0 := cell_later' x0 hb3
  clear y0 y1 y2 y3 y4 x0 xa xa' xb xb' hb3 KD B1 I1
  obtain ⟨y0, y1, y2, y3, y4⟩ := id I3.out
  obtain ⟨I0, I1⟩ := hI
  have hi' : (i : Int) < 1000 := by omega
  obtain ⟨q0, q1⟩ := hs.1.2 rb
  obtain ⟨wh, ewh⟩ : ∃ v, whereZ s rb imm = v := ⟨_, rfl⟩
  have MD : Hid (∀ W, Calls Tryd.prog 23 #[.int .i64 (s.r rb + imm), .int .i64 4294967296] W fun e w' => e = .returned (.int .i64 wh) ∧ w' = W) := fun W => by
    have h := mod_any (s.r rb + imm) 4294967296 W (by omega) (by omega)
    rwa [← ewh]
  have hwh : 0 ≤ wh ∧ wh < 4294967296 := by rw [← ewh]; unfold whereZ; omega
  have EW : Hid (IntKind.u32.wrap wh = wh) := by show _ = _; simp [IntKind.wrap, IntKind.bits, IntKind.signed]; omega
  have e9 := EW.out
  go_upto_region 24 with (go_at_call 23; refine (MD.out _).mono ?_; rintro e w9 ⟨rfl, hw9⟩; obtain rfl := hw9.symm)
  clear MD e9 q0 q1
  have u1 := (cell_st B3.out).2.1 0 (by omega)
  have u0 := (cell_st B3.out).1
  have g1 : w3.frozen? ⟨w.heap.size, 1, none⟩ = false := B3.out.fz 1
  have g0 : w3.frozen? ⟨w.heap.size, 0, none⟩ = false := B3.out.fz 0
  go_upto_region 49 with fail
  have Bp : Hid (Boxed w (w3.setCell ⟨w.heap.size, 1, none⟩ (.int .u32 0)) w.heap.size (w.heap.size + 1) C (C.setIfInBounds 1 (.int .u32 0)) ({ s with r := fun j => if j = 0 then 0 else (s : St).r j })) := B3.out.put 1 (by omega) _ (fun g _ => off_int _ _ _) (put_reg B3.out.st 0 (by omega) 0)
  have Bq : Hid (Boxed w ((w3.setCell ⟨w.heap.size, 1, none⟩ (.int .u32 0)).setCell ⟨w.heap.size, 0, none⟩ (.int .i64 ((i : Int) + 1))) w.heap.size (w.heap.size + 1) C ((C.setIfInBounds 1 (.int .u32 0)).setIfInBounds 0 (.int .i64 ((i : Int) + 1))) ({ ({ s with r := fun j => if j = 0 then 0 else (s : St).r j } : St) with at_ := (i : Int) + 1 })) := Bp.out.put 0 (by omega) _ (fun g _ => off_int _ _ _) (st_at Bp.out.st _)
  clear u1 u0 g1 g0 Bp
  generalize (w3.setCell ⟨w.heap.size, 1, none⟩ (.int .u32 0)).setCell ⟨w.heap.size, 0, none⟩ (.int .i64 ((i : Int) + 1)) = wq at Bq ⊢
  generalize (C.setIfInBounds 1 (.int .u32 0)).setIfInBounds 0 (.int .i64 ((i : Int) + 1)) = Cq at Bq
  have ES : { ({ s with r := fun j => if j = 0 then 0 else (s : St).r j } : St) with at_ := (i : Int) + 1 } = opZ 24 ra rb rc imm s := by
    rw [zero_r hs.1.1]; simp [opZ, hi]
  rw [ES] at Bq
  have TT : Hid (Told w (wq.setCells (w.heap.size + 1) 0 Cq.toList) (w.heap.size + 1) C Cq (opZ 24 ra rb rc imm s)) := Told.same Bq.out
  go_wp2_with (first
    | ((with_reducible show wpList _ _ _ (Oper.mk _ (Op.load _ _) _ _ _ _ :: _) _ _); refine wpList_load_if (by rfl) 37 (.tmp 3) rfl w.heap.size 0 rfl Cq.toList _ (at_range Bq.out.at_) Tryd.underlying37 rfl (st_info Bq.out.st).2 ?_)
    | ((with_reducible show wpList _ _ _ (Oper.mk _ (Op.store _ _ _) _ _ _ _ :: _) _ _); refine wpList_store_room (w := w) rfl (.tmp 4) (.tmp 258) rfl (w.heap.size + 1) Cq rfl rfl Bq.out.st Bq.out.room ?_))
  exact bodyPost_ret (v := .agg Cq) (results_st rfl _ (w.heap.size + 1) (by first | rfl | simp) TT.out.st _ TT.out.at_) rfl TT.out.post
set_option maxRecDepth 100000 in
set_option maxHeartbeats 1000000 in
theorem rstep_19 {w : World} {C : Array Value} {s : St} (h : IsSt w (.agg C) s) (hs : Small s) (he : s.en = false) (a : Option Addr) (n c : Nat) (f : Nat → Int) (i : Nat) (x : Int) (hn : n ≤ 1000) (hw : RowK .u32 w a n f) (hi : s.at_ = i) (hin : i < n) (hx : f i = x) (ra rb rc : Nat) (imm : Int) (ha : ra < 16) (hb : rb < 16) (hc : rc < 16) (hI : -8388608 ≤ imm ∧ imm ≤ 8388607)
    (hG : ∀ W, Below w.heap.size w W → Calls Tryd.prog 21 #[.int .u32 x] W fun e w' => e = .returned (.tuple #[.agg #[.int .i64 19, .int .i64 ra, .int .i64 rb, .int .i64 rc, .int .i64 imm], .bool true]) ∧ Below W.heap.size W w') :
    Calls Tryd.prog 13 #[.slice a n c, .agg C] w (StPost w C (opZ 19 ra rb rc imm s)) := by
  have B0 : Hid (Boxed w ((w.alloc (.cells C 37)).alloc (.cells noSt 37)) w.heap.size (w.heap.size + 1) C C s) := Boxed.new h _ _
  clear h
  go_enter Tryd.func13, Tryd.ntmps13
  go_upto_region 1 with fail
  rw [noSt_def]
  generalize (w.alloc (.cells C 37)).alloc (.cells noSt 37) = w0 at B0 ⊢
  have HG : Hid (∀ W, Below w0.heap.size w0 W → Calls Tryd.prog 21 #[.int .u32 x] W fun e w' => e = .returned (.tuple #[.agg #[.int .i64 19, .int .i64 ra, .int .i64 rb, .int .i64 rc, .int .i64 imm], .bool true]) ∧ Below W.heap.size W w') := fun W hW => hG W (bnext B0.out.bel hW)
  obtain ⟨-, rfl | ⟨b, off, rfl, hcw⟩⟩ := hw
  · omega
  have xi := cell_later' (hcw i hin) B0.out.bel
  rw [hx] at xi
  have q1 : decide ((i : Int) < 0) = false := by simp
  have q2 : decide (n ≤ i) = false := by simp [hin]
  clear hG hcw hx
  obtain ⟨x0, -, -, x22, -, -⟩ := cell_st B0.out
  rw [he] at x22
  rw [hi] at x0
  go_upto_region 6 with (go_at_call 21; refine (HG.out _ (Below.refl _ _)).mono ?_; rintro e w1 ⟨rfl, hb1⟩; have HB1 : Hid (Below w0.heap.size w0 w1) := hb1)
  have B1 : Hid (Boxed w (w1.alloc (.cells #[.int .i64 19, .int .i64 ra, .int .i64 rb, .int .i64 rc, .int .i64 imm] 54)) w.heap.size (w.heap.size + 1) C C s) := (B0.out.later HB1.out).later ((Below.refl _ _).alloc (Nat.le_refl _) _)
  have I1 : Hid (InsAt (w1.alloc (.cells #[.int .i64 19, .int .i64 ra, .int .i64 rb, .int .i64 rc, .int .i64 imm] 54)) w1.heap.size 19 ra rb rc imm) := InsAt.new _ _ _ _ _ _ _
  have L1 : Hid (w.heap.size + 1 < w1.heap.size) := by have h1 := B0.out.hb; have h2 := HB1.out.size; have h3 := B0.out.hb.2.2.2.2; show _ < _; omega
  clear x0 x22 hb1 HB1 HG B0 xi q1 q2
  generalize w1.alloc (.cells #[.int .i64 19, .int .i64 ra, .int .i64 rb, .int .i64 rc, .int .i64 imm] 54) = w2 at B1 I1 ⊢
  have KD : Hid (∀ W, Calls Tryd.prog 22 #[.agg #[.int .i64 19, .int .i64 ra, .int .i64 rb, .int .i64 rc, .int .i64 imm]] W fun e w' => e = .returned (.int .i64 3) ∧ Below W.heap.size W w') := fun W => by have h := rkind_any 19 ra rb rc imm W (by omega) (by omega); rwa [show kindZ 19 = 3 from by decide] at h
  obtain ⟨y0, y1, y2, y3, y4⟩ := id I1.out
  obtain ⟨x0, xr, -⟩ := cell_st B1.out
  rw [hi] at x0
  have xa := xr ra ha
  have xa' : w2.cell? ⟨w.heap.size, ra + 1, none⟩ = some (.int .u32 (s.r ra)) := by rw [Nat.add_comm]; exact xa
  have xb := xr rb hb
  have xb' : w2.cell? ⟨w.heap.size, rb + 1, none⟩ = some (.int .u32 (s.r rb)) := by rw [Nat.add_comm]; exact xb
  have ha' : (ra : Int) < 16 := by omega
  have hb' : (rb : Int) < 16 := by omega
  clear xr
  go_upto_region 11 with (go_at_call 22; refine (KD.out _).mono ?_; rintro e w3 ⟨rfl, hb3⟩)
  have B3 : Hid (Boxed w w3 w.heap.size (w.heap.size + 1) C C s) := B1.out.later hb3
  have I3 : Hid (InsAt w3 w1.heap.size 19 ra rb rc imm) := I1.out.later hb3
  have z0 := cell_later' x0 hb3
  clear y0 y1 y2 y3 y4 x0 xa xa' xb xb' hb3 KD B1 I1
  obtain ⟨y0, y1, y2, y3, y4⟩ := id I3.out
  obtain ⟨I0, I1⟩ := hI
  have hi' : (i : Int) < 1000 := by omega
  obtain ⟨q0, q1⟩ := hs.1.2 rb
  obtain ⟨wh, ewh⟩ : ∃ v, whereZ s rb imm = v := ⟨_, rfl⟩
  have MD : Hid (∀ W, Calls Tryd.prog 23 #[.int .i64 (s.r rb + imm), .int .i64 4294967296] W fun e w' => e = .returned (.int .i64 wh) ∧ w' = W) := fun W => by
    have h := mod_any (s.r rb + imm) 4294967296 W (by omega) (by omega)
    rwa [← ewh]
  have hwh : 0 ≤ wh ∧ wh < 4294967296 := by rw [← ewh]; unfold whereZ; omega
  have EW : Hid (IntKind.u32.wrap wh = wh) := by show _ = _; simp [IntKind.wrap, IntKind.bits, IntKind.signed]; omega
  have e9 := EW.out
  go_upto_region 24 with (go_at_call 23; refine (MD.out _).mono ?_; rintro e w9 ⟨rfl, hw9⟩; obtain rfl := hw9.symm)
  clear MD e9 q0 q1
  have u1 := (cell_st B3.out).2.1 0 (by omega)
  have u0 := (cell_st B3.out).1
  have g1 : w3.frozen? ⟨w.heap.size, 1, none⟩ = false := B3.out.fz 1
  have g0 : w3.frozen? ⟨w.heap.size, 0, none⟩ = false := B3.out.fz 0
  go_upto_region 49 with fail
  have Bp : Hid (Boxed w (w3.setCell ⟨w.heap.size, 1, none⟩ (.int .u32 0)) w.heap.size (w.heap.size + 1) C (C.setIfInBounds 1 (.int .u32 0)) ({ s with r := fun j => if j = 0 then 0 else (s : St).r j })) := B3.out.put 1 (by omega) _ (fun g _ => off_int _ _ _) (put_reg B3.out.st 0 (by omega) 0)
  have Bq : Hid (Boxed w ((w3.setCell ⟨w.heap.size, 1, none⟩ (.int .u32 0)).setCell ⟨w.heap.size, 0, none⟩ (.int .i64 ((i : Int) + 1 + imm))) w.heap.size (w.heap.size + 1) C ((C.setIfInBounds 1 (.int .u32 0)).setIfInBounds 0 (.int .i64 ((i : Int) + 1 + imm))) ({ ({ s with r := fun j => if j = 0 then 0 else (s : St).r j } : St) with at_ := (i : Int) + 1 + imm })) := Bp.out.put 0 (by omega) _ (fun g _ => off_int _ _ _) (st_at Bp.out.st _)
  clear u1 u0 g1 g0 Bp
  generalize (w3.setCell ⟨w.heap.size, 1, none⟩ (.int .u32 0)).setCell ⟨w.heap.size, 0, none⟩ (.int .i64 ((i : Int) + 1 + imm)) = wq at Bq ⊢
  generalize (C.setIfInBounds 1 (.int .u32 0)).setIfInBounds 0 (.int .i64 ((i : Int) + 1 + imm)) = Cq at Bq
  have ES : { ({ s with r := fun j => if j = 0 then 0 else (s : St).r j } : St) with at_ := (i : Int) + 1 + imm } = opZ 19 ra rb rc imm s := by
    rw [zero_r hs.1.1]; simp [opZ, hi]
  rw [ES] at Bq
  have TT : Hid (Told w (wq.setCells (w.heap.size + 1) 0 Cq.toList) (w.heap.size + 1) C Cq (opZ 19 ra rb rc imm s)) := Told.same Bq.out
  go_wp2_with (first
    | ((with_reducible show wpList _ _ _ (Oper.mk _ (Op.load _ _) _ _ _ _ :: _) _ _); refine wpList_load_if (by rfl) 37 (.tmp 3) rfl w.heap.size 0 rfl Cq.toList _ (at_range Bq.out.at_) Tryd.underlying37 rfl (st_info Bq.out.st).2 ?_)
    | ((with_reducible show wpList _ _ _ (Oper.mk _ (Op.store _ _ _) _ _ _ _ :: _) _ _); refine wpList_store_room (w := w) rfl (.tmp 4) (.tmp 258) rfl (w.heap.size + 1) Cq rfl rfl Bq.out.st Bq.out.room ?_))
  exact bodyPost_ret (v := .agg Cq) (results_st rfl _ (w.heap.size + 1) (by first | rfl | simp) TT.out.st _ TT.out.at_) rfl TT.out.post
set_option maxRecDepth 100000 in
set_option maxHeartbeats 1000000 in
theorem rstep_br_true {w : World} {C : Array Value} {s : St} (h : IsSt w (.agg C) s) (hs : Small s) (he : s.en = false) (a : Option Addr) (n c : Nat) (f : Nat → Int) (i : Nat) (x : Int) (hn : n ≤ 1000) (hw : RowK .u32 w a n f) (hi : s.at_ = i) (hin : i < n) (hx : f i = x) (o : Int) (ho : 15 ≤ o ∧ o ≤ 18) (ra rb rc : Nat) (imm : Int) (ha : ra < 16) (hb : rb < 16) (hc : rc < 16) (hI : -8388608 ≤ imm ∧ imm ≤ 8388607) (htk : takenB o (s.r ra) (s.r rb) = true)
    (hG : ∀ W, Below w.heap.size w W → Calls Tryd.prog 21 #[.int .u32 x] W fun e w' => e = .returned (.tuple #[.agg #[.int .i64 o, .int .i64 ra, .int .i64 rb, .int .i64 rc, .int .i64 imm], .bool true]) ∧ Below W.heap.size W w') :
    Calls Tryd.prog 13 #[.slice a n c, .agg C] w (StPost w C (opZ o ra rb rc imm s)) := by
  have t0 : (o == 0) = false := by simp; omega
  have e0 : ¬ o = 0 := by omega
  have t25 : (o == 25) = false := by simp; omega
  have e25 : ¬ o = 25 := by omega
  have t21 : (o == 21) = false := by simp; omega
  have e21 : ¬ o = 21 := by omega
  have t11 : (o == 11) = false := by simp; omega
  have e11 : ¬ o = 11 := by omega
  have t13 : (o == 13) = false := by simp; omega
  have e13 : ¬ o = 13 := by omega
  have t12 : (o == 12) = false := by simp; omega
  have e12 : ¬ o = 12 := by omega
  have t14 : (o == 14) = false := by simp; omega
  have e14 : ¬ o = 14 := by omega
  have t22 : (o == 22) = false := by simp; omega
  have e22 : ¬ o = 22 := by omega
  have t23 : (o == 23) = false := by simp; omega
  have e23 : ¬ o = 23 := by omega
  have t24 : (o == 24) = false := by simp; omega
  have e24 : ¬ o = 24 := by omega
  have n24 : (o != 24) = true := by simp; omega
  have TK : Hid (∀ W, Calls Tryd.prog 27 #[.int .i64 o, .int .u32 (s.r ra), .int .u32 (s.r rb)] W fun e w' => e = .returned (.bool true) ∧ w' = W) := fun W => by
    have h := rtaken_any o (s.r ra) (s.r rb) W (hs.1.2 ra).1 (hs.1.2 ra).2 (hs.1.2 rb).1 (hs.1.2 rb).2
    rwa [htk] at h
  have HTK : Hid (takenB o (s.r ra) (s.r rb) = true) := htk
  clear htk
  have B0 : Hid (Boxed w ((w.alloc (.cells C 37)).alloc (.cells noSt 37)) w.heap.size (w.heap.size + 1) C C s) := Boxed.new h _ _
  clear h
  go_enter Tryd.func13, Tryd.ntmps13
  go_upto_region 1 with fail
  rw [noSt_def]
  generalize (w.alloc (.cells C 37)).alloc (.cells noSt 37) = w0 at B0 ⊢
  have HG : Hid (∀ W, Below w0.heap.size w0 W → Calls Tryd.prog 21 #[.int .u32 x] W fun e w' => e = .returned (.tuple #[.agg #[.int .i64 o, .int .i64 ra, .int .i64 rb, .int .i64 rc, .int .i64 imm], .bool true]) ∧ Below W.heap.size W w') := fun W hW => hG W (bnext B0.out.bel hW)
  obtain ⟨-, rfl | ⟨b, off, rfl, hcw⟩⟩ := hw
  · omega
  have xi := cell_later' (hcw i hin) B0.out.bel
  rw [hx] at xi
  have q1 : decide ((i : Int) < 0) = false := by simp
  have q2 : decide (n ≤ i) = false := by simp [hin]
  clear hG hcw hx
  obtain ⟨x0, -, -, x22, -, -⟩ := cell_st B0.out
  rw [he] at x22
  rw [hi] at x0
  go_upto_region 6 with (go_at_call 21; refine (HG.out _ (Below.refl _ _)).mono ?_; rintro e w1 ⟨rfl, hb1⟩; have HB1 : Hid (Below w0.heap.size w0 w1) := hb1)
  have B1 : Hid (Boxed w (w1.alloc (.cells #[.int .i64 o, .int .i64 ra, .int .i64 rb, .int .i64 rc, .int .i64 imm] 54)) w.heap.size (w.heap.size + 1) C C s) := (B0.out.later HB1.out).later ((Below.refl _ _).alloc (Nat.le_refl _) _)
  have I1 : Hid (InsAt (w1.alloc (.cells #[.int .i64 o, .int .i64 ra, .int .i64 rb, .int .i64 rc, .int .i64 imm] 54)) w1.heap.size o ra rb rc imm) := InsAt.new _ _ _ _ _ _ _
  have L1 : Hid (w.heap.size + 1 < w1.heap.size) := by have h1 := B0.out.hb; have h2 := HB1.out.size; have h3 := B0.out.hb.2.2.2.2; show _ < _; omega
  clear x0 x22 hb1 HB1 HG B0 xi q1 q2
  generalize w1.alloc (.cells #[.int .i64 o, .int .i64 ra, .int .i64 rb, .int .i64 rc, .int .i64 imm] 54) = w2 at B1 I1 ⊢
  have KD : Hid (∀ W, Calls Tryd.prog 22 #[.agg #[.int .i64 o, .int .i64 ra, .int .i64 rb, .int .i64 rc, .int .i64 imm]] W fun e w' => e = .returned (.int .i64 2) ∧ Below W.heap.size W w') := fun W => by have h := rkind_any o ra rb rc imm W (by omega) (by omega); rwa [show kindZ o = 2 from by unfold kindZ; rw [if_neg (by omega), if_neg (by omega), if_pos (by omega)]] at h
  obtain ⟨y0, y1, y2, y3, y4⟩ := id I1.out
  obtain ⟨x0, xr, -⟩ := cell_st B1.out
  rw [hi] at x0
  have xa := xr ra ha
  have xa' : w2.cell? ⟨w.heap.size, ra + 1, none⟩ = some (.int .u32 (s.r ra)) := by rw [Nat.add_comm]; exact xa
  have xb := xr rb hb
  have xb' : w2.cell? ⟨w.heap.size, rb + 1, none⟩ = some (.int .u32 (s.r rb)) := by rw [Nat.add_comm]; exact xb
  have ha' : (ra : Int) < 16 := by omega
  have hb' : (rb : Int) < 16 := by omega
  clear xr
  go_upto_region 11 with (go_at_call 22; refine (KD.out _).mono ?_; rintro e w3 ⟨rfl, hb3⟩)
  have B3 : Hid (Boxed w w3 w.heap.size (w.heap.size + 1) C C s) := B1.out.later hb3
  have I3 : Hid (InsAt w3 w1.heap.size o ra rb rc imm) := I1.out.later hb3
  have z0 := cell_later' x0 hb3
  clear y0 y1 y2 y3 y4 x0 xa xa' xb xb' hb3 KD B1 I1
  obtain ⟨y0, y1, y2, y3, y4⟩ := id I3.out
  obtain ⟨I0, I1⟩ := hI
  have hi' : (i : Int) < 1000 := by omega
  obtain ⟨q0, q1⟩ := hs.1.2 rb
  obtain ⟨wh, ewh⟩ : ∃ v, whereZ s rb imm = v := ⟨_, rfl⟩
  have MD : Hid (∀ W, Calls Tryd.prog 23 #[.int .i64 (s.r rb + imm), .int .i64 4294967296] W fun e w' => e = .returned (.int .i64 wh) ∧ w' = W) := fun W => by
    have h := mod_any (s.r rb + imm) 4294967296 W (by omega) (by omega)
    rwa [← ewh]
  have hwh : 0 ≤ wh ∧ wh < 4294967296 := by rw [← ewh]; unfold whereZ; omega
  have EW : Hid (IntKind.u32.wrap wh = wh) := by show _ = _; simp [IntKind.wrap, IntKind.bits, IntKind.signed]; omega
  have e9 := EW.out
  go_upto_region 24 with (go_at_call 23; refine (MD.out _).mono ?_; rintro e w9 ⟨rfl, hw9⟩; obtain rfl := hw9.symm)
  clear MD e9 q0 q1
  go_upto_region 47 with (go_at_call 27; refine (TK.out _).mono ?_; rintro e w9 ⟨rfl, hw9⟩; obtain rfl := hw9.symm)
  have u1 := (cell_st B3.out).2.1 0 (by omega)
  have u0 := (cell_st B3.out).1
  have g1 : w3.frozen? ⟨w.heap.size, 1, none⟩ = false := B3.out.fz 1
  have g0 : w3.frozen? ⟨w.heap.size, 0, none⟩ = false := B3.out.fz 0
  go_upto_region 49 with fail
  have Bp : Hid (Boxed w (w3.setCell ⟨w.heap.size, 1, none⟩ (.int .u32 0)) w.heap.size (w.heap.size + 1) C (C.setIfInBounds 1 (.int .u32 0)) ({ s with r := fun j => if j = 0 then 0 else (s : St).r j })) := B3.out.put 1 (by omega) _ (fun g _ => off_int _ _ _) (put_reg B3.out.st 0 (by omega) 0)
  have Bq : Hid (Boxed w ((w3.setCell ⟨w.heap.size, 1, none⟩ (.int .u32 0)).setCell ⟨w.heap.size, 0, none⟩ (.int .i64 ((i : Int) + 1 + imm))) w.heap.size (w.heap.size + 1) C ((C.setIfInBounds 1 (.int .u32 0)).setIfInBounds 0 (.int .i64 ((i : Int) + 1 + imm))) ({ ({ s with r := fun j => if j = 0 then 0 else (s : St).r j } : St) with at_ := (i : Int) + 1 + imm })) := Bp.out.put 0 (by omega) _ (fun g _ => off_int _ _ _) (st_at Bp.out.st _)
  clear u1 u0 g1 g0 Bp
  generalize (w3.setCell ⟨w.heap.size, 1, none⟩ (.int .u32 0)).setCell ⟨w.heap.size, 0, none⟩ (.int .i64 ((i : Int) + 1 + imm)) = wq at Bq ⊢
  generalize (C.setIfInBounds 1 (.int .u32 0)).setIfInBounds 0 (.int .i64 ((i : Int) + 1 + imm)) = Cq at Bq
  have ES : { ({ s with r := fun j => if j = 0 then 0 else (s : St).r j } : St) with at_ := (i : Int) + 1 + imm } = opZ o ra rb rc imm s := by
    have htk := HTK.out; have e19 : ¬ o = 19 := (by omega); have e20 : ¬ o = 20 := (by omega); rw [zero_r hs.1.1]; simp [opZ, hi, htk, e0, e25, e21, e11, e13, e12, e14, e22, e23, e24, e19, e20, ho]
  rw [ES] at Bq
  have TT : Hid (Told w (wq.setCells (w.heap.size + 1) 0 Cq.toList) (w.heap.size + 1) C Cq (opZ o ra rb rc imm s)) := Told.same Bq.out
  go_wp2_with (first
    | ((with_reducible show wpList _ _ _ (Oper.mk _ (Op.load _ _) _ _ _ _ :: _) _ _); refine wpList_load_if (by rfl) 37 (.tmp 3) rfl w.heap.size 0 rfl Cq.toList _ (at_range Bq.out.at_) Tryd.underlying37 rfl (st_info Bq.out.st).2 ?_)
    | ((with_reducible show wpList _ _ _ (Oper.mk _ (Op.store _ _ _) _ _ _ _ :: _) _ _); refine wpList_store_room (w := w) rfl (.tmp 4) (.tmp 258) rfl (w.heap.size + 1) Cq rfl rfl Bq.out.st Bq.out.room ?_))
  exact bodyPost_ret (v := .agg Cq) (results_st rfl _ (w.heap.size + 1) (by first | rfl | simp) TT.out.st _ TT.out.at_) rfl TT.out.post
set_option maxRecDepth 100000 in
set_option maxHeartbeats 1000000 in
theorem rstep_br_false {w : World} {C : Array Value} {s : St} (h : IsSt w (.agg C) s) (hs : Small s) (he : s.en = false) (a : Option Addr) (n c : Nat) (f : Nat → Int) (i : Nat) (x : Int) (hn : n ≤ 1000) (hw : RowK .u32 w a n f) (hi : s.at_ = i) (hin : i < n) (hx : f i = x) (o : Int) (ho : 15 ≤ o ∧ o ≤ 18) (ra rb rc : Nat) (imm : Int) (ha : ra < 16) (hb : rb < 16) (hc : rc < 16) (hI : -8388608 ≤ imm ∧ imm ≤ 8388607) (htk : takenB o (s.r ra) (s.r rb) = false)
    (hG : ∀ W, Below w.heap.size w W → Calls Tryd.prog 21 #[.int .u32 x] W fun e w' => e = .returned (.tuple #[.agg #[.int .i64 o, .int .i64 ra, .int .i64 rb, .int .i64 rc, .int .i64 imm], .bool true]) ∧ Below W.heap.size W w') :
    Calls Tryd.prog 13 #[.slice a n c, .agg C] w (StPost w C (opZ o ra rb rc imm s)) := by
  have t0 : (o == 0) = false := by simp; omega
  have e0 : ¬ o = 0 := by omega
  have t25 : (o == 25) = false := by simp; omega
  have e25 : ¬ o = 25 := by omega
  have t21 : (o == 21) = false := by simp; omega
  have e21 : ¬ o = 21 := by omega
  have t11 : (o == 11) = false := by simp; omega
  have e11 : ¬ o = 11 := by omega
  have t13 : (o == 13) = false := by simp; omega
  have e13 : ¬ o = 13 := by omega
  have t12 : (o == 12) = false := by simp; omega
  have e12 : ¬ o = 12 := by omega
  have t14 : (o == 14) = false := by simp; omega
  have e14 : ¬ o = 14 := by omega
  have t22 : (o == 22) = false := by simp; omega
  have e22 : ¬ o = 22 := by omega
  have t23 : (o == 23) = false := by simp; omega
  have e23 : ¬ o = 23 := by omega
  have t24 : (o == 24) = false := by simp; omega
  have e24 : ¬ o = 24 := by omega
  have n24 : (o != 24) = true := by simp; omega
  have TK : Hid (∀ W, Calls Tryd.prog 27 #[.int .i64 o, .int .u32 (s.r ra), .int .u32 (s.r rb)] W fun e w' => e = .returned (.bool false) ∧ w' = W) := fun W => by
    have h := rtaken_any o (s.r ra) (s.r rb) W (hs.1.2 ra).1 (hs.1.2 ra).2 (hs.1.2 rb).1 (hs.1.2 rb).2
    rwa [htk] at h
  have HTK : Hid (takenB o (s.r ra) (s.r rb) = false) := htk
  clear htk
  have B0 : Hid (Boxed w ((w.alloc (.cells C 37)).alloc (.cells noSt 37)) w.heap.size (w.heap.size + 1) C C s) := Boxed.new h _ _
  clear h
  go_enter Tryd.func13, Tryd.ntmps13
  go_upto_region 1 with fail
  rw [noSt_def]
  generalize (w.alloc (.cells C 37)).alloc (.cells noSt 37) = w0 at B0 ⊢
  have HG : Hid (∀ W, Below w0.heap.size w0 W → Calls Tryd.prog 21 #[.int .u32 x] W fun e w' => e = .returned (.tuple #[.agg #[.int .i64 o, .int .i64 ra, .int .i64 rb, .int .i64 rc, .int .i64 imm], .bool true]) ∧ Below W.heap.size W w') := fun W hW => hG W (bnext B0.out.bel hW)
  obtain ⟨-, rfl | ⟨b, off, rfl, hcw⟩⟩ := hw
  · omega
  have xi := cell_later' (hcw i hin) B0.out.bel
  rw [hx] at xi
  have q1 : decide ((i : Int) < 0) = false := by simp
  have q2 : decide (n ≤ i) = false := by simp [hin]
  clear hG hcw hx
  obtain ⟨x0, -, -, x22, -, -⟩ := cell_st B0.out
  rw [he] at x22
  rw [hi] at x0
  go_upto_region 6 with (go_at_call 21; refine (HG.out _ (Below.refl _ _)).mono ?_; rintro e w1 ⟨rfl, hb1⟩; have HB1 : Hid (Below w0.heap.size w0 w1) := hb1)
  have B1 : Hid (Boxed w (w1.alloc (.cells #[.int .i64 o, .int .i64 ra, .int .i64 rb, .int .i64 rc, .int .i64 imm] 54)) w.heap.size (w.heap.size + 1) C C s) := (B0.out.later HB1.out).later ((Below.refl _ _).alloc (Nat.le_refl _) _)
  have I1 : Hid (InsAt (w1.alloc (.cells #[.int .i64 o, .int .i64 ra, .int .i64 rb, .int .i64 rc, .int .i64 imm] 54)) w1.heap.size o ra rb rc imm) := InsAt.new _ _ _ _ _ _ _
  have L1 : Hid (w.heap.size + 1 < w1.heap.size) := by have h1 := B0.out.hb; have h2 := HB1.out.size; have h3 := B0.out.hb.2.2.2.2; show _ < _; omega
  clear x0 x22 hb1 HB1 HG B0 xi q1 q2
  generalize w1.alloc (.cells #[.int .i64 o, .int .i64 ra, .int .i64 rb, .int .i64 rc, .int .i64 imm] 54) = w2 at B1 I1 ⊢
  have KD : Hid (∀ W, Calls Tryd.prog 22 #[.agg #[.int .i64 o, .int .i64 ra, .int .i64 rb, .int .i64 rc, .int .i64 imm]] W fun e w' => e = .returned (.int .i64 2) ∧ Below W.heap.size W w') := fun W => by have h := rkind_any o ra rb rc imm W (by omega) (by omega); rwa [show kindZ o = 2 from by unfold kindZ; rw [if_neg (by omega), if_neg (by omega), if_pos (by omega)]] at h
  obtain ⟨y0, y1, y2, y3, y4⟩ := id I1.out
  obtain ⟨x0, xr, -⟩ := cell_st B1.out
  rw [hi] at x0
  have xa := xr ra ha
  have xa' : w2.cell? ⟨w.heap.size, ra + 1, none⟩ = some (.int .u32 (s.r ra)) := by rw [Nat.add_comm]; exact xa
  have xb := xr rb hb
  have xb' : w2.cell? ⟨w.heap.size, rb + 1, none⟩ = some (.int .u32 (s.r rb)) := by rw [Nat.add_comm]; exact xb
  have ha' : (ra : Int) < 16 := by omega
  have hb' : (rb : Int) < 16 := by omega
  clear xr
  go_upto_region 11 with (go_at_call 22; refine (KD.out _).mono ?_; rintro e w3 ⟨rfl, hb3⟩)
  have B3 : Hid (Boxed w w3 w.heap.size (w.heap.size + 1) C C s) := B1.out.later hb3
  have I3 : Hid (InsAt w3 w1.heap.size o ra rb rc imm) := I1.out.later hb3
  have z0 := cell_later' x0 hb3
  clear y0 y1 y2 y3 y4 x0 xa xa' xb xb' hb3 KD B1 I1
  obtain ⟨y0, y1, y2, y3, y4⟩ := id I3.out
  obtain ⟨I0, I1⟩ := hI
  have hi' : (i : Int) < 1000 := by omega
  obtain ⟨q0, q1⟩ := hs.1.2 rb
  obtain ⟨wh, ewh⟩ : ∃ v, whereZ s rb imm = v := ⟨_, rfl⟩
  have MD : Hid (∀ W, Calls Tryd.prog 23 #[.int .i64 (s.r rb + imm), .int .i64 4294967296] W fun e w' => e = .returned (.int .i64 wh) ∧ w' = W) := fun W => by
    have h := mod_any (s.r rb + imm) 4294967296 W (by omega) (by omega)
    rwa [← ewh]
  have hwh : 0 ≤ wh ∧ wh < 4294967296 := by rw [← ewh]; unfold whereZ; omega
  have EW : Hid (IntKind.u32.wrap wh = wh) := by show _ = _; simp [IntKind.wrap, IntKind.bits, IntKind.signed]; omega
  have e9 := EW.out
  go_upto_region 24 with (go_at_call 23; refine (MD.out _).mono ?_; rintro e w9 ⟨rfl, hw9⟩; obtain rfl := hw9.symm)
  clear MD e9 q0 q1
  go_upto_region 47 with (go_at_call 27; refine (TK.out _).mono ?_; rintro e w9 ⟨rfl, hw9⟩; obtain rfl := hw9.symm)
  have u1 := (cell_st B3.out).2.1 0 (by omega)
  have u0 := (cell_st B3.out).1
  have g1 : w3.frozen? ⟨w.heap.size, 1, none⟩ = false := B3.out.fz 1
  have g0 : w3.frozen? ⟨w.heap.size, 0, none⟩ = false := B3.out.fz 0
  go_upto_region 49 with fail
  have Bp : Hid (Boxed w (w3.setCell ⟨w.heap.size, 1, none⟩ (.int .u32 0)) w.heap.size (w.heap.size + 1) C (C.setIfInBounds 1 (.int .u32 0)) ({ s with r := fun j => if j = 0 then 0 else (s : St).r j })) := B3.out.put 1 (by omega) _ (fun g _ => off_int _ _ _) (put_reg B3.out.st 0 (by omega) 0)
  have Bq : Hid (Boxed w ((w3.setCell ⟨w.heap.size, 1, none⟩ (.int .u32 0)).setCell ⟨w.heap.size, 0, none⟩ (.int .i64 ((i : Int) + 1))) w.heap.size (w.heap.size + 1) C ((C.setIfInBounds 1 (.int .u32 0)).setIfInBounds 0 (.int .i64 ((i : Int) + 1))) ({ ({ s with r := fun j => if j = 0 then 0 else (s : St).r j } : St) with at_ := (i : Int) + 1 })) := Bp.out.put 0 (by omega) _ (fun g _ => off_int _ _ _) (st_at Bp.out.st _)
  clear u1 u0 g1 g0 Bp
  generalize (w3.setCell ⟨w.heap.size, 1, none⟩ (.int .u32 0)).setCell ⟨w.heap.size, 0, none⟩ (.int .i64 ((i : Int) + 1)) = wq at Bq ⊢
  generalize (C.setIfInBounds 1 (.int .u32 0)).setIfInBounds 0 (.int .i64 ((i : Int) + 1)) = Cq at Bq
  have ES : { ({ s with r := fun j => if j = 0 then 0 else (s : St).r j } : St) with at_ := (i : Int) + 1 } = opZ o ra rb rc imm s := by
    have htk := HTK.out; have e19 : ¬ o = 19 := (by omega); have e20 : ¬ o = 20 := (by omega); rw [zero_r hs.1.1]; simp [opZ, hi, htk, e0, e25, e21, e11, e13, e12, e14, e22, e23, e24, e19, e20, ho]
  rw [ES] at Bq
  have TT : Hid (Told w (wq.setCells (w.heap.size + 1) 0 Cq.toList) (w.heap.size + 1) C Cq (opZ o ra rb rc imm s)) := Told.same Bq.out
  go_wp2_with (first
    | ((with_reducible show wpList _ _ _ (Oper.mk _ (Op.load _ _) _ _ _ _ :: _) _ _); refine wpList_load_if (by rfl) 37 (.tmp 3) rfl w.heap.size 0 rfl Cq.toList _ (at_range Bq.out.at_) Tryd.underlying37 rfl (st_info Bq.out.st).2 ?_)
    | ((with_reducible show wpList _ _ _ (Oper.mk _ (Op.store _ _ _) _ _ _ _ :: _) _ _); refine wpList_store_room (w := w) rfl (.tmp 4) (.tmp 258) rfl (w.heap.size + 1) Cq rfl rfl Bq.out.st Bq.out.room ?_))
  exact bodyPost_ret (v := .agg Cq) (results_st rfl _ (w.heap.size + 1) (by first | rfl | simp) TT.out.st _ TT.out.at_) rfl TT.out.post
set_option maxRecDepth 100000 in
set_option maxHeartbeats 1000000 in
theorem rstep_20 {w : World} {C : Array Value} {s : St} (h : IsSt w (.agg C) s) (hs : Small s) (he : s.en = false) (a : Option Addr) (n c : Nat) (f : Nat → Int) (i : Nat) (x : Int) (hn : n ≤ 1000) (hw : RowK .u32 w a n f) (hi : s.at_ = i) (hin : i < n) (hx : f i = x) (ra rb rc : Nat) (imm : Int) (ha : ra < 16) (hb : rb < 16) (hc : rc < 16) (hI : -8388608 ≤ imm ∧ imm ≤ 8388607)
    (hG : ∀ W, Below w.heap.size w W → Calls Tryd.prog 21 #[.int .u32 x] W fun e w' => e = .returned (.tuple #[.agg #[.int .i64 20, .int .i64 ra, .int .i64 rb, .int .i64 rc, .int .i64 imm], .bool true]) ∧ Below W.heap.size W w') :
    Calls Tryd.prog 13 #[.slice a n c, .agg C] w (StPost w C (opZ 20 ra rb rc imm s)) := by
  have B0 : Hid (Boxed w ((w.alloc (.cells C 37)).alloc (.cells noSt 37)) w.heap.size (w.heap.size + 1) C C s) := Boxed.new h _ _
  clear h
  go_enter Tryd.func13, Tryd.ntmps13
  go_upto_region 1 with fail
  rw [noSt_def]
  generalize (w.alloc (.cells C 37)).alloc (.cells noSt 37) = w0 at B0 ⊢
  have HG : Hid (∀ W, Below w0.heap.size w0 W → Calls Tryd.prog 21 #[.int .u32 x] W fun e w' => e = .returned (.tuple #[.agg #[.int .i64 20, .int .i64 ra, .int .i64 rb, .int .i64 rc, .int .i64 imm], .bool true]) ∧ Below W.heap.size W w') := fun W hW => hG W (bnext B0.out.bel hW)
  obtain ⟨-, rfl | ⟨b, off, rfl, hcw⟩⟩ := hw
  · omega
  have xi := cell_later' (hcw i hin) B0.out.bel
  rw [hx] at xi
  have q1 : decide ((i : Int) < 0) = false := by simp
  have q2 : decide (n ≤ i) = false := by simp [hin]
  clear hG hcw hx
  obtain ⟨x0, -, -, x22, -, -⟩ := cell_st B0.out
  rw [he] at x22
  rw [hi] at x0
  go_upto_region 6 with (go_at_call 21; refine (HG.out _ (Below.refl _ _)).mono ?_; rintro e w1 ⟨rfl, hb1⟩; have HB1 : Hid (Below w0.heap.size w0 w1) := hb1)
  have B1 : Hid (Boxed w (w1.alloc (.cells #[.int .i64 20, .int .i64 ra, .int .i64 rb, .int .i64 rc, .int .i64 imm] 54)) w.heap.size (w.heap.size + 1) C C s) := (B0.out.later HB1.out).later ((Below.refl _ _).alloc (Nat.le_refl _) _)
  have I1 : Hid (InsAt (w1.alloc (.cells #[.int .i64 20, .int .i64 ra, .int .i64 rb, .int .i64 rc, .int .i64 imm] 54)) w1.heap.size 20 ra rb rc imm) := InsAt.new _ _ _ _ _ _ _
  have L1 : Hid (w.heap.size + 1 < w1.heap.size) := by have h1 := B0.out.hb; have h2 := HB1.out.size; have h3 := B0.out.hb.2.2.2.2; show _ < _; omega
  clear x0 x22 hb1 HB1 HG B0 xi q1 q2
  generalize w1.alloc (.cells #[.int .i64 20, .int .i64 ra, .int .i64 rb, .int .i64 rc, .int .i64 imm] 54) = w2 at B1 I1 ⊢
  have KD : Hid (∀ W, Calls Tryd.prog 22 #[.agg #[.int .i64 20, .int .i64 ra, .int .i64 rb, .int .i64 rc, .int .i64 imm]] W fun e w' => e = .returned (.int .i64 4) ∧ Below W.heap.size W w') := fun W => by have h := rkind_any 20 ra rb rc imm W (by omega) (by omega); rwa [show kindZ 20 = 4 from by decide] at h
  obtain ⟨y0, y1, y2, y3, y4⟩ := id I1.out
  obtain ⟨x0, xr, -⟩ := cell_st B1.out
  rw [hi] at x0
  have xa := xr ra ha
  have xa' : w2.cell? ⟨w.heap.size, ra + 1, none⟩ = some (.int .u32 (s.r ra)) := by rw [Nat.add_comm]; exact xa
  have xb := xr rb hb
  have xb' : w2.cell? ⟨w.heap.size, rb + 1, none⟩ = some (.int .u32 (s.r rb)) := by rw [Nat.add_comm]; exact xb
  have ha' : (ra : Int) < 16 := by omega
  have hb' : (rb : Int) < 16 := by omega
  clear xr
  go_upto_region 11 with (go_at_call 22; refine (KD.out _).mono ?_; rintro e w3 ⟨rfl, hb3⟩)
  have B3 : Hid (Boxed w w3 w.heap.size (w.heap.size + 1) C C s) := B1.out.later hb3
  have I3 : Hid (InsAt w3 w1.heap.size 20 ra rb rc imm) := I1.out.later hb3
  have z0 := cell_later' x0 hb3
  clear y0 y1 y2 y3 y4 x0 xa xa' xb xb' hb3 KD B1 I1
  obtain ⟨y0, y1, y2, y3, y4⟩ := id I3.out
  obtain ⟨I0, I1⟩ := hI
  have hi' : (i : Int) < 1000 := by omega
  obtain ⟨q0, q1⟩ := hs.1.2 rb
  obtain ⟨wh, ewh⟩ : ∃ v, whereZ s rb imm = v := ⟨_, rfl⟩
  have MD : Hid (∀ W, Calls Tryd.prog 23 #[.int .i64 (s.r rb + imm), .int .i64 4294967296] W fun e w' => e = .returned (.int .i64 wh) ∧ w' = W) := fun W => by
    have h := mod_any (s.r rb + imm) 4294967296 W (by omega) (by omega)
    rwa [← ewh]
  have hwh : 0 ≤ wh ∧ wh < 4294967296 := by rw [← ewh]; unfold whereZ; omega
  have EW : Hid (IntKind.u32.wrap wh = wh) := by show _ = _; simp [IntKind.wrap, IntKind.bits, IntKind.signed]; omega
  have e9 := EW.out
  go_upto_region 24 with (go_at_call 23; refine (MD.out _).mono ?_; rintro e w9 ⟨rfl, hw9⟩; obtain rfl := hw9.symm)
  clear MD e9 q0 q1
  have hbl : s.bn ≤ 4000 := hs.2.2.1.1
  obtain ⟨ba, bc, ma, mc, ia, ic, oa, oc, ⟨x17, -⟩, ⟨hd, hR⟩, -⟩ := list_st B3.out
  have HRC : Hid (∀ ad, ba = some ad → ∀ j u, (cellsK .i64 s.bn s.bf)[j]? = some u → w3.cell? (ad.add j) = some u) := row_cells hR
  have HD1 : Hid (Head ba s.bn bc) := hd
  have HF : Hid (∀ j, (Lit.int .i64 (s.bf j)).wf = true) := hR.1
  have lt3 : w.heap.size < w3.heap.size := B3.out.hb.2.2.2.1
  obtain ⟨i0, hi0, hz0, hz1, hz2⟩ := info_parts infoI
  clear hd hR
  go_upto_region 45 with (first | (at_builtin; refine wpList_append_all _ rfl (.tmp 228) (.tmp 230) 33 rfl w3.heap.size 3 i0 _ 1 8 Tryd.underlying33 hi0 hz0 hz1 hz2 rfl (by decide) (.slice a5 s.bn c5) s.bn (cellsK .i64 s.bn s.bf) rfl (own5.alloc _) (some ⟨w5.heap.size, 0, none⟩) 1 1 (cellsK .i64 1 (fun _ => (i : Int) + 1)) rfl rfl (fun e => by cases e) (fun ad ha j u hu => by simp only [Option.some.injEq] at ha; subst ha; rcases j with _ | j <;> simp [cellsK] at hu; subst hu; simp [Addr.add, go_sem]) (cellsK_one _ _ _) (by unfold maxLen; omega) (by omega) (by have := hb5.size; simp; omega) ?_; intro a6 c6 w6 own6 hgrow6; have hb6 : Below w3.heap.size w3 w6 := (hb5.alloc hb5.size _).grown hgrow6 (by have := hb5.size; simp; omega) (fun q hq => (own5.lt q hq).1); have x17' := cell_later' x17 hb6; have f17' : w6.frozen? ⟨w.heap.size, 17, none⟩ = false := (B3.out.later hb6).fz 17) | (at_builtin; refine wpList_append_fresh w3 rfl (.tmp 225) (.tmp 227) 33 rfl 3 (.int .i64 0) 8 Tryd.underlying33 infoI rfl rfl ba s.bn bc (cellsK .i64 s.bn s.bf) rfl (cellsK_len _ _ _) (head_nil HD1.out) HRC.out (cellsK_one _ _ _) (by unfold maxLen; omega) (by omega) ?_; intro a5 c5 w5 own5 hb5))
  have B4 : Hid (Boxed w (w6.setCell ⟨w.heap.size, 17, none⟩ (.slice a6 (s.bn + 1) c6)) w.heap.size (w.heap.size + 1) C (C.setIfInBounds 17 (.slice a6 (s.bn + 1) c6)) { s with bn := s.bn + 1, bf := fun k => if k = s.bn then (i : Int) + 1 else s.bf k }) := by
    rw [cellsK_add] at own6
    have wf1 : (Lit.int .i64 ((i : Int) + 1)).wf = true := by simp [Lit.wf, IntKind.min, IntKind.max, IntKind.signed, IntKind.bits]; omega
    have o1 := own_ints own6 (fun j => by (try simp only []); split; exact HF.out j; exact wf1)
    exact (B3.out.later hb6).put 17 (by omega) _ (fun g hg => off_new (own_blk own6) (by have := B3.out.hb; have := B3.out.bel.size; omega)) (put_bk (B3.out.later hb6).st a6 _ c6 _ ⟨o1.1, rowK_congr o1.2 (fun j => by (try simp only []); split; exact wf1; exact HF.out j) fun j hj => by
      by_cases e : j = s.bn
      · subst e; rw [if_pos rfl, if_neg (by omega)]
      · rw [if_neg e, if_pos (by omega)]⟩)
  have I4 : Hid (InsAt (w6.setCell ⟨w.heap.size, 17, none⟩ (.slice a6 (s.bn + 1) c6)) w1.heap.size 20 ra rb rc imm) := (I3.out.later hb6).far (by have := L1.out; omega) _ _
  clear x17 x17' f17' own5 own6 hgrow6 hb5 hb6 HRC HD1 HF y0 y1 y2 y3 y4 z0 B3 I3
  generalize w6.setCell ⟨w.heap.size, 17, none⟩ (.slice a6 (s.bn + 1) c6) = w4 at B4 I4 ⊢
  generalize C.setIfInBounds 17 (.slice a6 (s.bn + 1) c6) = C4 at B4
  obtain ⟨y0, y1, y2, y3, y4⟩ := id I4.out
  go_upto_region 47 with fail
  have u1 := (cell_st B4.out).2.1 0 (by omega)
  have u0 := (cell_st B4.out).1
  have g1 : w4.frozen? ⟨w.heap.size, 1, none⟩ = false := B4.out.fz 1
  have g0 : w4.frozen? ⟨w.heap.size, 0, none⟩ = false := B4.out.fz 0
  go_upto_region 49 with fail
  have Bp : Hid (Boxed w (w4.setCell ⟨w.heap.size, 1, none⟩ (.int .u32 0)) w.heap.size (w.heap.size + 1) C (C4.setIfInBounds 1 (.int .u32 0)) ({ { s with bn := s.bn + 1, bf := fun k => if k = s.bn then (i : Int) + 1 else s.bf k } with r := fun j => if j = 0 then 0 else ({ s with bn := s.bn + 1, bf := fun k => if k = s.bn then (i : Int) + 1 else s.bf k } : St).r j })) := B4.out.put 1 (by omega) _ (fun g _ => off_int _ _ _) (put_reg B4.out.st 0 (by omega) 0)
  have Bq : Hid (Boxed w ((w4.setCell ⟨w.heap.size, 1, none⟩ (.int .u32 0)).setCell ⟨w.heap.size, 0, none⟩ (.int .i64 ((i : Int) + 1 + imm))) w.heap.size (w.heap.size + 1) C ((C4.setIfInBounds 1 (.int .u32 0)).setIfInBounds 0 (.int .i64 ((i : Int) + 1 + imm))) ({ ({ { s with bn := s.bn + 1, bf := fun k => if k = s.bn then (i : Int) + 1 else s.bf k } with r := fun j => if j = 0 then 0 else ({ s with bn := s.bn + 1, bf := fun k => if k = s.bn then (i : Int) + 1 else s.bf k } : St).r j } : St) with at_ := (i : Int) + 1 + imm })) := Bp.out.put 0 (by omega) _ (fun g _ => off_int _ _ _) (st_at Bp.out.st _)
  clear u1 u0 g1 g0 Bp
  generalize (w4.setCell ⟨w.heap.size, 1, none⟩ (.int .u32 0)).setCell ⟨w.heap.size, 0, none⟩ (.int .i64 ((i : Int) + 1 + imm)) = wq at Bq ⊢
  generalize (C4.setIfInBounds 1 (.int .u32 0)).setIfInBounds 0 (.int .i64 ((i : Int) + 1 + imm)) = Cq at Bq
  have ES : { ({ { s with bn := s.bn + 1, bf := fun k => if k = s.bn then (i : Int) + 1 else s.bf k } with r := fun j => if j = 0 then 0 else ({ s with bn := s.bn + 1, bf := fun k => if k = s.bn then (i : Int) + 1 else s.bf k } : St).r j } : St) with at_ := (i : Int) + 1 + imm } = opZ 20 ra rb rc imm s := by
    simp only []; rw [zero_r hs.1.1]; simp [opZ, hi]
  rw [ES] at Bq
  have TT : Hid (Told w (wq.setCells (w.heap.size + 1) 0 Cq.toList) (w.heap.size + 1) C Cq (opZ 20 ra rb rc imm s)) := Told.same Bq.out
  go_wp2_with (first
    | ((with_reducible show wpList _ _ _ (Oper.mk _ (Op.load _ _) _ _ _ _ :: _) _ _); refine wpList_load_if (by rfl) 37 (.tmp 3) rfl w.heap.size 0 rfl Cq.toList _ (at_range Bq.out.at_) Tryd.underlying37 rfl (st_info Bq.out.st).2 ?_)
    | ((with_reducible show wpList _ _ _ (Oper.mk _ (Op.store _ _ _) _ _ _ _ :: _) _ _); refine wpList_store_room (w := w) rfl (.tmp 4) (.tmp 258) rfl (w.heap.size + 1) Cq rfl rfl Bq.out.st Bq.out.room ?_))
  exact bodyPost_ret (v := .agg Cq) (results_st rfl _ (w.heap.size + 1) (by first | rfl | simp) TT.out.st _ TT.out.at_) rfl TT.out.post
set_option maxRecDepth 100000 in
set_option maxHeartbeats 1000000 in
theorem rstep_23_no {w : World} {C : Array Value} {s : St} (h : IsSt w (.agg C) s) (hs : Small s) (he : s.en = false) (a : Option Addr) (n c : Nat) (f : Nat → Int) (i : Nat) (x : Int) (hn : n ≤ 1000) (hw : RowK .u32 w a n f) (hi : s.at_ = i) (hin : i < n) (hx : f i = x) (ra rb rc : Nat) (imm : Int) (ha : ra < 16) (hb : rb < 16) (hc : rc < 16) (hI : -8388608 ≤ imm ∧ imm ≤ 8388607) (hon : ¬ s.on_ < 4096)
    (hG : ∀ W, Below w.heap.size w W → Calls Tryd.prog 21 #[.int .u32 x] W fun e w' => e = .returned (.tuple #[.agg #[.int .i64 23, .int .i64 ra, .int .i64 rb, .int .i64 rc, .int .i64 imm], .bool true]) ∧ Below W.heap.size W w') :
    Calls Tryd.prog 13 #[.slice a n c, .agg C] w (StPost w C (opZ 23 ra rb rc imm s)) := by
  have hon' : ¬ (s.on_ : Int) < 4096 := by omega
  have B0 : Hid (Boxed w ((w.alloc (.cells C 37)).alloc (.cells noSt 37)) w.heap.size (w.heap.size + 1) C C s) := Boxed.new h _ _
  clear h
  go_enter Tryd.func13, Tryd.ntmps13
  go_upto_region 1 with fail
  rw [noSt_def]
  generalize (w.alloc (.cells C 37)).alloc (.cells noSt 37) = w0 at B0 ⊢
  have HG : Hid (∀ W, Below w0.heap.size w0 W → Calls Tryd.prog 21 #[.int .u32 x] W fun e w' => e = .returned (.tuple #[.agg #[.int .i64 23, .int .i64 ra, .int .i64 rb, .int .i64 rc, .int .i64 imm], .bool true]) ∧ Below W.heap.size W w') := fun W hW => hG W (bnext B0.out.bel hW)
  obtain ⟨-, rfl | ⟨b, off, rfl, hcw⟩⟩ := hw
  · omega
  have xi := cell_later' (hcw i hin) B0.out.bel
  rw [hx] at xi
  have q1 : decide ((i : Int) < 0) = false := by simp
  have q2 : decide (n ≤ i) = false := by simp [hin]
  clear hG hcw hx
  obtain ⟨x0, -, -, x22, -, -⟩ := cell_st B0.out
  rw [he] at x22
  rw [hi] at x0
  go_upto_region 6 with (go_at_call 21; refine (HG.out _ (Below.refl _ _)).mono ?_; rintro e w1 ⟨rfl, hb1⟩; have HB1 : Hid (Below w0.heap.size w0 w1) := hb1)
  have B1 : Hid (Boxed w (w1.alloc (.cells #[.int .i64 23, .int .i64 ra, .int .i64 rb, .int .i64 rc, .int .i64 imm] 54)) w.heap.size (w.heap.size + 1) C C s) := (B0.out.later HB1.out).later ((Below.refl _ _).alloc (Nat.le_refl _) _)
  have I1 : Hid (InsAt (w1.alloc (.cells #[.int .i64 23, .int .i64 ra, .int .i64 rb, .int .i64 rc, .int .i64 imm] 54)) w1.heap.size 23 ra rb rc imm) := InsAt.new _ _ _ _ _ _ _
  have L1 : Hid (w.heap.size + 1 < w1.heap.size) := by have h1 := B0.out.hb; have h2 := HB1.out.size; have h3 := B0.out.hb.2.2.2.2; show _ < _; omega
  clear x0 x22 hb1 HB1 HG B0 xi q1 q2
  generalize w1.alloc (.cells #[.int .i64 23, .int .i64 ra, .int .i64 rb, .int .i64 rc, .int .i64 imm] 54) = w2 at B1 I1 ⊢
  have KD : Hid (∀ W, Calls Tryd.prog 22 #[.agg #[.int .i64 23, .int .i64 ra, .int .i64 rb, .int .i64 rc, .int .i64 imm]] W fun e w' => e = .returned (.int .i64 1) ∧ Below W.heap.size W w') := fun W => by have h := rkind_any 23 ra rb rc imm W (by omega) (by omega); rwa [show kindZ 23 = 1 from by decide] at h
  obtain ⟨y0, y1, y2, y3, y4⟩ := id I1.out
  obtain ⟨x0, xr, -⟩ := cell_st B1.out
  rw [hi] at x0
  have xa := xr ra ha
  have xa' : w2.cell? ⟨w.heap.size, ra + 1, none⟩ = some (.int .u32 (s.r ra)) := by rw [Nat.add_comm]; exact xa
  have xb := xr rb hb
  have xb' : w2.cell? ⟨w.heap.size, rb + 1, none⟩ = some (.int .u32 (s.r rb)) := by rw [Nat.add_comm]; exact xb
  have ha' : (ra : Int) < 16 := by omega
  have hb' : (rb : Int) < 16 := by omega
  clear xr
  go_upto_region 11 with (go_at_call 22; refine (KD.out _).mono ?_; rintro e w3 ⟨rfl, hb3⟩)
  have B3 : Hid (Boxed w w3 w.heap.size (w.heap.size + 1) C C s) := B1.out.later hb3
  have I3 : Hid (InsAt w3 w1.heap.size 23 ra rb rc imm) := I1.out.later hb3
  have z0 := cell_later' x0 hb3
  clear y0 y1 y2 y3 y4 x0 xa xa' xb xb' hb3 KD B1 I1
  obtain ⟨y0, y1, y2, y3, y4⟩ := id I3.out
  obtain ⟨I0, I1⟩ := hI
  have hi' : (i : Int) < 1000 := by omega
  obtain ⟨q0, q1⟩ := hs.1.2 rb
  obtain ⟨wh, ewh⟩ : ∃ v, whereZ s rb imm = v := ⟨_, rfl⟩
  have MD : Hid (∀ W, Calls Tryd.prog 23 #[.int .i64 (s.r rb + imm), .int .i64 4294967296] W fun e w' => e = .returned (.int .i64 wh) ∧ w' = W) := fun W => by
    have h := mod_any (s.r rb + imm) 4294967296 W (by omega) (by omega)
    rwa [← ewh]
  have hwh : 0 ≤ wh ∧ wh < 4294967296 := by rw [← ewh]; unfold whereZ; omega
  have EW : Hid (IntKind.u32.wrap wh = wh) := by show _ = _; simp [IntKind.wrap, IntKind.bits, IntKind.signed]; omega
  have e9 := EW.out
  go_upto_region 24 with (go_at_call 23; refine (MD.out _).mono ?_; rintro e w9 ⟨rfl, hw9⟩; obtain rfl := hw9.symm)
  clear MD e9 q0 q1
  obtain ⟨ba, bc, ma, mc, ia, ic, oa, oc, ⟨-, -, -, x21⟩, -⟩ := list_st B3.out
  go_upto_region 47 with fail
  have u1 := (cell_st B3.out).2.1 0 (by omega)
  have u0 := (cell_st B3.out).1
  have g1 : w3.frozen? ⟨w.heap.size, 1, none⟩ = false := B3.out.fz 1
  have g0 : w3.frozen? ⟨w.heap.size, 0, none⟩ = false := B3.out.fz 0
  go_upto_region 49 with fail
  have Bp : Hid (Boxed w (w3.setCell ⟨w.heap.size, 1, none⟩ (.int .u32 0)) w.heap.size (w.heap.size + 1) C (C.setIfInBounds 1 (.int .u32 0)) ({ s with r := fun j => if j = 0 then 0 else (s : St).r j })) := B3.out.put 1 (by omega) _ (fun g _ => off_int _ _ _) (put_reg B3.out.st 0 (by omega) 0)
  have Bq : Hid (Boxed w ((w3.setCell ⟨w.heap.size, 1, none⟩ (.int .u32 0)).setCell ⟨w.heap.size, 0, none⟩ (.int .i64 ((i : Int) + 1))) w.heap.size (w.heap.size + 1) C ((C.setIfInBounds 1 (.int .u32 0)).setIfInBounds 0 (.int .i64 ((i : Int) + 1))) ({ ({ s with r := fun j => if j = 0 then 0 else (s : St).r j } : St) with at_ := (i : Int) + 1 })) := Bp.out.put 0 (by omega) _ (fun g _ => off_int _ _ _) (st_at Bp.out.st _)
  clear u1 u0 g1 g0 Bp
  generalize (w3.setCell ⟨w.heap.size, 1, none⟩ (.int .u32 0)).setCell ⟨w.heap.size, 0, none⟩ (.int .i64 ((i : Int) + 1)) = wq at Bq ⊢
  generalize (C.setIfInBounds 1 (.int .u32 0)).setIfInBounds 0 (.int .i64 ((i : Int) + 1)) = Cq at Bq
  have ES : { ({ s with r := fun j => if j = 0 then 0 else (s : St).r j } : St) with at_ := (i : Int) + 1 } = opZ 23 ra rb rc imm s := by
    rw [zero_r hs.1.1]; simp [opZ, hi, hon]
  rw [ES] at Bq
  have TT : Hid (Told w (wq.setCells (w.heap.size + 1) 0 Cq.toList) (w.heap.size + 1) C Cq (opZ 23 ra rb rc imm s)) := Told.same Bq.out
  go_wp2_with (first
    | ((with_reducible show wpList _ _ _ (Oper.mk _ (Op.load _ _) _ _ _ _ :: _) _ _); refine wpList_load_if (by rfl) 37 (.tmp 3) rfl w.heap.size 0 rfl Cq.toList _ (at_range Bq.out.at_) Tryd.underlying37 rfl (st_info Bq.out.st).2 ?_)
    | ((with_reducible show wpList _ _ _ (Oper.mk _ (Op.store _ _ _) _ _ _ _ :: _) _ _); refine wpList_store_room (w := w) rfl (.tmp 4) (.tmp 258) rfl (w.heap.size + 1) Cq rfl rfl Bq.out.st Bq.out.room ?_))
  exact bodyPost_ret (v := .agg Cq) (results_st rfl _ (w.heap.size + 1) (by first | rfl | simp) TT.out.st _ TT.out.at_) rfl TT.out.post
set_option maxRecDepth 100000 in
set_option maxHeartbeats 1000000 in
theorem rstep_23_yes {w : World} {C : Array Value} {s : St} (h : IsSt w (.agg C) s) (hs : Small s) (he : s.en = false) (a : Option Addr) (n c : Nat) (f : Nat → Int) (i : Nat) (x : Int) (hn : n ≤ 1000) (hw : RowK .u32 w a n f) (hi : s.at_ = i) (hin : i < n) (hx : f i = x) (ra rb rc : Nat) (imm : Int) (ha : ra < 16) (hb : rb < 16) (hc : rc < 16) (hI : -8388608 ≤ imm ∧ imm ≤ 8388607) (hon : s.on_ < 4096)
    (hG : ∀ W, Below w.heap.size w W → Calls Tryd.prog 21 #[.int .u32 x] W fun e w' => e = .returned (.tuple #[.agg #[.int .i64 23, .int .i64 ra, .int .i64 rb, .int .i64 rc, .int .i64 imm], .bool true]) ∧ Below W.heap.size W w') :
    Calls Tryd.prog 13 #[.slice a n c, .agg C] w (StPost w C (opZ 23 ra rb rc imm s)) := by
  have hon' : (s.on_ : Int) < 4096 := by omega
  have B0 : Hid (Boxed w ((w.alloc (.cells C 37)).alloc (.cells noSt 37)) w.heap.size (w.heap.size + 1) C C s) := Boxed.new h _ _
  clear h
  go_enter Tryd.func13, Tryd.ntmps13
  go_upto_region 1 with fail
  rw [noSt_def]
  generalize (w.alloc (.cells C 37)).alloc (.cells noSt 37) = w0 at B0 ⊢
  have HG : Hid (∀ W, Below w0.heap.size w0 W → Calls Tryd.prog 21 #[.int .u32 x] W fun e w' => e = .returned (.tuple #[.agg #[.int .i64 23, .int .i64 ra, .int .i64 rb, .int .i64 rc, .int .i64 imm], .bool true]) ∧ Below W.heap.size W w') := fun W hW => hG W (bnext B0.out.bel hW)
  obtain ⟨-, rfl | ⟨b, off, rfl, hcw⟩⟩ := hw
  · omega
  have xi := cell_later' (hcw i hin) B0.out.bel
  rw [hx] at xi
  have q1 : decide ((i : Int) < 0) = false := by simp
  have q2 : decide (n ≤ i) = false := by simp [hin]
  clear hG hcw hx
  obtain ⟨x0, -, -, x22, -, -⟩ := cell_st B0.out
  rw [he] at x22
  rw [hi] at x0
  go_upto_region 6 with (go_at_call 21; refine (HG.out _ (Below.refl _ _)).mono ?_; rintro e w1 ⟨rfl, hb1⟩; have HB1 : Hid (Below w0.heap.size w0 w1) := hb1)
  have B1 : Hid (Boxed w (w1.alloc (.cells #[.int .i64 23, .int .i64 ra, .int .i64 rb, .int .i64 rc, .int .i64 imm] 54)) w.heap.size (w.heap.size + 1) C C s) := (B0.out.later HB1.out).later ((Below.refl _ _).alloc (Nat.le_refl _) _)
  have I1 : Hid (InsAt (w1.alloc (.cells #[.int .i64 23, .int .i64 ra, .int .i64 rb, .int .i64 rc, .int .i64 imm] 54)) w1.heap.size 23 ra rb rc imm) := InsAt.new _ _ _ _ _ _ _
  have L1 : Hid (w.heap.size + 1 < w1.heap.size) := by have h1 := B0.out.hb; have h2 := HB1.out.size; have h3 := B0.out.hb.2.2.2.2; show _ < _; omega
  clear x0 x22 hb1 HB1 HG B0 xi q1 q2
  generalize w1.alloc (.cells #[.int .i64 23, .int .i64 ra, .int .i64 rb, .int .i64 rc, .int .i64 imm] 54) = w2 at B1 I1 ⊢
  have KD : Hid (∀ W, Calls Tryd.prog 22 #[.agg #[.int .i64 23, .int .i64 ra, .int .i64 rb, .int .i64 rc, .int .i64 imm]] W fun e w' => e = .returned (.int .i64 1) ∧ Below W.heap.size W w') := fun W => by have h := rkind_any 23 ra rb rc imm W (by omega) (by omega); rwa [show kindZ 23 = 1 from by decide] at h
  obtain ⟨y0, y1, y2, y3, y4⟩ := id I1.out
  obtain ⟨x0, xr, -⟩ := cell_st B1.out
  rw [hi] at x0
  have xa := xr ra ha
  have xa' : w2.cell? ⟨w.heap.size, ra + 1, none⟩ = some (.int .u32 (s.r ra)) := by rw [Nat.add_comm]; exact xa
  have xb := xr rb hb
  have xb' : w2.cell? ⟨w.heap.size, rb + 1, none⟩ = some (.int .u32 (s.r rb)) := by rw [Nat.add_comm]; exact xb
  have ha' : (ra : Int) < 16 := by omega
  have hb' : (rb : Int) < 16 := by omega
  clear xr
  go_upto_region 11 with (go_at_call 22; refine (KD.out _).mono ?_; rintro e w3 ⟨rfl, hb3⟩)
  have B3 : Hid (Boxed w w3 w.heap.size (w.heap.size + 1) C C s) := B1.out.later hb3
  have I3 : Hid (InsAt w3 w1.heap.size 23 ra rb rc imm) := I1.out.later hb3
  have z0 := cell_later' x0 hb3
  clear y0 y1 y2 y3 y4 x0 xa xa' xb xb' hb3 KD B1 I1
  obtain ⟨y0, y1, y2, y3, y4⟩ := id I3.out
  obtain ⟨I0, I1⟩ := hI
  have hi' : (i : Int) < 1000 := by omega
  obtain ⟨q0, q1⟩ := hs.1.2 rb
  obtain ⟨wh, ewh⟩ : ∃ v, whereZ s rb imm = v := ⟨_, rfl⟩
  have MD : Hid (∀ W, Calls Tryd.prog 23 #[.int .i64 (s.r rb + imm), .int .i64 4294967296] W fun e w' => e = .returned (.int .i64 wh) ∧ w' = W) := fun W => by
    have h := mod_any (s.r rb + imm) 4294967296 W (by omega) (by omega)
    rwa [← ewh]
  have hwh : 0 ≤ wh ∧ wh < 4294967296 := by rw [← ewh]; unfold whereZ; omega
  have EW : Hid (IntKind.u32.wrap wh = wh) := by show _ = _; simp [IntKind.wrap, IntKind.bits, IntKind.signed]; omega
  have e9 := EW.out
  go_upto_region 24 with (go_at_call 23; refine (MD.out _).mono ?_; rintro e w9 ⟨rfl, hw9⟩; obtain rfl := hw9.symm)
  clear MD e9 q0 q1
  obtain ⟨ba, bc, ma, mc, ia, ic, oa, oc, ⟨-, -, -, x21⟩, -, -, -, hd, hR⟩ := list_st B3.out
  have HRC : Hid (∀ ad, oa = some ad → ∀ j u, (cellsK .u8 s.on_ s.of_)[j]? = some u → w3.cell? (ad.add j) = some u) := bytes_cells hR
  have HD1 : Hid (Head oa s.on_ oc) := hd
  have HF : Hid (∀ j, 0 ≤ s.of_ j ∧ s.of_ j < 256) := hR.1
  have lt3 : w.heap.size < w3.heap.size := B3.out.hb.2.2.2.1
  obtain ⟨i0, hi0, hz0, hz1, hz2⟩ := info_parts infoB
  have ra0 := hs.1.2 ra
  obtain ⟨v, ev⟩ : ∃ v, s.r ra % 256 = v := ⟨_, rfl⟩
  have ev1 : (s.r ra).tmod 256 = v := by rw [Int.tmod_eq_emod_of_nonneg ra0.1]; exact ev
  have ev2 : IntKind.u8.wrap v = v := by simp [IntKind.wrap, IntKind.bits, IntKind.signed]; omega
  have hv : 0 ≤ v ∧ v < 256 := by omega
  have HV : Hid (0 ≤ v ∧ v < 256) := hv
  have EV : Hid (s.r ra % 256 = v) := ev
  clear hd hR ra0 hv ev
  go_upto_region 41 with (first | (at_builtin; refine wpList_append_all _ rfl (.tmp 197) (.tmp 201) 23 rfl w3.heap.size 5 i0 _ 1 1 Tryd.underlying23 hi0 hz0 hz1 hz2 rfl (by decide) (.slice a5 s.on_ c5) s.on_ (cellsK .u8 s.on_ s.of_) rfl (own5.alloc _) (some ⟨w5.heap.size, 0, none⟩) 1 1 (cellsK .u8 1 (fun _ => v)) rfl rfl (fun e => by cases e) (fun ad ha j u hu => by simp only [Option.some.injEq] at ha; subst ha; rcases j with _ | j <;> simp [cellsK] at hu; subst hu; simp [Addr.add, go_sem]) (cellsK_one _ _ _) (by unfold maxLen; omega) (by omega) (by have := hb5.size; simp; omega) ?_; intro a6 c6 w6 own6 hgrow6; have hb6 : Below w3.heap.size w3 w6 := (hb5.alloc hb5.size _).grown hgrow6 (by have := hb5.size; simp; omega) (fun q hq => (own5.lt q hq).1); have x21' := cell_later' x21 hb6; have f21' : w6.frozen? ⟨w.heap.size, 21, none⟩ = false := (B3.out.later hb6).fz 21) | (at_builtin; refine wpList_append_fresh w3 rfl (.tmp 194) (.tmp 196) 23 rfl 5 (.int .u8 0) 1 Tryd.underlying23 infoB rfl rfl oa s.on_ oc (cellsK .u8 s.on_ s.of_) rfl (cellsK_len _ _ _) (head_nil HD1.out) HRC.out (cellsK_one _ _ _) (by unfold maxLen; omega) (by omega) ?_; intro a5 c5 w5 own5 hb5))
  have B4 : Hid (Boxed w (w6.setCell ⟨w.heap.size, 21, none⟩ (.slice a6 (s.on_ + 1) c6)) w.heap.size (w.heap.size + 1) C (C.setIfInBounds 21 (.slice a6 (s.on_ + 1) c6)) { s with on_ := s.on_ + 1, of_ := fun j => if j = s.on_ then v else s.of_ j }) := by
    rw [cellsK_add] at own6
    have o1 := own_bytes own6 (fun j => by (try simp only []); split; exact HF.out j; exact HV.out)
    exact (B3.out.later hb6).put 21 (by omega) _ (fun g hg => off_new (own_blk own6) (by have := B3.out.hb; have := B3.out.bel.size; omega)) (put_out (B3.out.later hb6).st a6 _ c6 _ ⟨o1.1, bytes_congr o1.2 (fun j => by (try simp only []); split; exact HV.out; exact HF.out j) fun j hj => by
      by_cases e : j = s.on_
      · subst e; rw [if_pos rfl, if_neg (by omega)]
      · rw [if_neg e, if_pos (by omega)]⟩)
  clear x21 x21' f21' own5 own6 hgrow6 hb5 hb6 HRC HD1 HF y0 y1 y2 y3 y4 z0 B3 I3 ev1 ev2
  generalize w6.setCell ⟨w.heap.size, 21, none⟩ (.slice a6 (s.on_ + 1) c6) = w4 at B4 ⊢
  generalize C.setIfInBounds 21 (.slice a6 (s.on_ + 1) c6) = C4 at B4
  have u1 := (cell_st B4.out).2.1 0 (by omega)
  have u0 := (cell_st B4.out).1
  have g1 : w4.frozen? ⟨w.heap.size, 1, none⟩ = false := B4.out.fz 1
  have g0 : w4.frozen? ⟨w.heap.size, 0, none⟩ = false := B4.out.fz 0
  go_upto_region 49 with fail
  have Bp : Hid (Boxed w (w4.setCell ⟨w.heap.size, 1, none⟩ (.int .u32 0)) w.heap.size (w.heap.size + 1) C (C4.setIfInBounds 1 (.int .u32 0)) ({ { s with on_ := s.on_ + 1, of_ := fun j => if j = s.on_ then v else s.of_ j } with r := fun j => if j = 0 then 0 else ({ s with on_ := s.on_ + 1, of_ := fun j => if j = s.on_ then v else s.of_ j } : St).r j })) := B4.out.put 1 (by omega) _ (fun g _ => off_int _ _ _) (put_reg B4.out.st 0 (by omega) 0)
  have Bq : Hid (Boxed w ((w4.setCell ⟨w.heap.size, 1, none⟩ (.int .u32 0)).setCell ⟨w.heap.size, 0, none⟩ (.int .i64 ((i : Int) + 1))) w.heap.size (w.heap.size + 1) C ((C4.setIfInBounds 1 (.int .u32 0)).setIfInBounds 0 (.int .i64 ((i : Int) + 1))) ({ ({ { s with on_ := s.on_ + 1, of_ := fun j => if j = s.on_ then v else s.of_ j } with r := fun j => if j = 0 then 0 else ({ s with on_ := s.on_ + 1, of_ := fun j => if j = s.on_ then v else s.of_ j } : St).r j } : St) with at_ := (i : Int) + 1 })) := Bp.out.put 0 (by omega) _ (fun g _ => off_int _ _ _) (st_at Bp.out.st _)
  clear u1 u0 g1 g0 Bp
  generalize (w4.setCell ⟨w.heap.size, 1, none⟩ (.int .u32 0)).setCell ⟨w.heap.size, 0, none⟩ (.int .i64 ((i : Int) + 1)) = wq at Bq ⊢
  generalize (C4.setIfInBounds 1 (.int .u32 0)).setIfInBounds 0 (.int .i64 ((i : Int) + 1)) = Cq at Bq
  have ES : { ({ { s with on_ := s.on_ + 1, of_ := fun j => if j = s.on_ then v else s.of_ j } with r := fun j => if j = 0 then 0 else ({ s with on_ := s.on_ + 1, of_ := fun j => if j = s.on_ then v else s.of_ j } : St).r j } : St) with at_ := (i : Int) + 1 } = opZ 23 ra rb rc imm s := by
    have ev := EV.out; simp only []; rw [zero_r hs.1.1]; simp [opZ, hi, hon, ev]
  rw [ES] at Bq
  have TT : Hid (Told w (wq.setCells (w.heap.size + 1) 0 Cq.toList) (w.heap.size + 1) C Cq (opZ 23 ra rb rc imm s)) := Told.same Bq.out
  go_wp2_with (first
    | ((with_reducible show wpList _ _ _ (Oper.mk _ (Op.load _ _) _ _ _ _ :: _) _ _); refine wpList_load_if (by rfl) 37 (.tmp 3) rfl w.heap.size 0 rfl Cq.toList _ (at_range Bq.out.at_) Tryd.underlying37 rfl (st_info Bq.out.st).2 ?_)
    | ((with_reducible show wpList _ _ _ (Oper.mk _ (Op.store _ _ _) _ _ _ _ :: _) _ _); refine wpList_store_room (w := w) rfl (.tmp 4) (.tmp 258) rfl (w.heap.size + 1) Cq rfl rfl Bq.out.st Bq.out.room ?_))
  exact bodyPost_ret (v := .agg Cq) (results_st rfl _ (w.heap.size + 1) (by first | rfl | simp) TT.out.st _ TT.out.at_) rfl TT.out.post
end Go.Proofs.YtnpejnjigaalfaaDoor
