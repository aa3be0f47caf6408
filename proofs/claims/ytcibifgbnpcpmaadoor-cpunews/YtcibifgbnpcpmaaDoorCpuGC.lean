/- What the code's Step returns of what is pure, and of None. -/
import Derived.Test.YtcibifgbnpcpmaaDoorCpuF
namespace Go.Proofs.YtcibifgbnpcpmaaDoor
open Go.ChangeShapes Go.WideShapes Go.ChangeAt Go.RowKit
set_option linter.unusedVariables false
set_option linter.unusedSimpArgs false
set_option maxRecDepth 100000 in
set_option maxHeartbeats 1000000 in
theorem step_1 {w : World} {C : Array Value} {s : St} (h : IsSt w (.agg C) s) (hs : Small s) (he : s.en = false) (a : Option Addr) (n c : Nat) (ra rb rc : Nat) (imm : Int) (ha : ra < 16) (hb : rb < 16) (hc : rc < 16) (hi : 8 ≤ (1 : Int) ∧ (1 : Int) ≤ 10 → -32768 ≤ imm ∧ imm ≤ 65535) (hj : (1 : Int) = 10 → 0 ≤ imm)
    (hF : ∀ W, Below w.heap.size w W → Calls Tryd.prog 24 #[.slice a n c, .int .i64 s.at_] W fun e w' => e = .returned (.tuple #[.agg #[.int .i64 1, .int .i64 ra, .int .i64 rb, .int .i64 rc, .int .i64 imm], .bool true]) ∧ Below W.heap.size W w') :
    Calls Tryd.prog 13 #[.slice a n c, .agg C] w (StPost w C (opZ 1 ra rb rc imm s)) := by
  have DO : Hid (∀ W, Calls Tryd.prog 36 #[.agg #[.int .i64 1, .int .i64 ra, .int .i64 rb, .int .i64 rc, .int .i64 imm], .int .u32 (s.r rb), .int .u32 (s.r rc)] W fun e w' => e = .returned (.int .u32 (doZ 1 imm (s.r rb).toNat (s.r rc).toNat)) ∧ Below W.heap.size W w') := fun W => by
    have h1 := hs.1.2 rb
    have h2 := hs.1.2 rc
    have h := do_any 1 ra rb rc imm (s.r rb).toNat (s.r rc).toNat W (by omega) (by omega) (by omega) (by omega) hi hj
    rwa [Int.toNat_of_nonneg h1.1, Int.toNat_of_nonneg h2.1] at h
  have B0 : Hid (Boxed w ((w.alloc (.cells C 32)).alloc (.cells noSt 32)) w.heap.size (w.heap.size + 1) C C s) := Boxed.new h _ _
  clear h
  go_enter Tryd.func13, Tryd.ntmps13
  go_upto_region 1 with fail
  rw [noSt_def]
  generalize (w.alloc (.cells C 32)).alloc (.cells noSt 32) = w0 at B0 ⊢
  have HF : Hid (∀ W, Below w0.heap.size w0 W → Calls Tryd.prog 24 #[.slice a n c, .int .i64 s.at_] W fun e w' => e = .returned (.tuple #[.agg #[.int .i64 1, .int .i64 ra, .int .i64 rb, .int .i64 rc, .int .i64 imm], .bool true]) ∧ Below W.heap.size W w') := fun W hW => hF W (bnext B0.out.bel hW)
  clear hF
  obtain ⟨x0, -, -, x22, -, -⟩ := cell_st B0.out
  rw [he] at x22
  go_upto_region 4 with (go_at_call 24; refine (HF.out _ (Below.refl _ _)).mono ?_; rintro e w1 ⟨rfl, hb1⟩; have HB1 : Hid (Below w0.heap.size w0 w1) := hb1)
  have B1 : Hid (Boxed w (w1.alloc (.cells #[.int .i64 1, .int .i64 ra, .int .i64 rb, .int .i64 rc, .int .i64 imm] 40)) w.heap.size (w.heap.size + 1) C C s) := (B0.out.later HB1.out).later ((Below.refl _ _).alloc (Nat.le_refl _) _)
  have I1 : Hid (InsAt (w1.alloc (.cells #[.int .i64 1, .int .i64 ra, .int .i64 rb, .int .i64 rc, .int .i64 imm] 40)) w1.heap.size 1 ra rb rc imm) := InsAt.new _ _ _ _ _ _ _
  have L1 : Hid (w.heap.size + 1 < w1.heap.size) := by have h1 := B0.out.hb; have h2 := HB1.out.size; have h3 := B0.out.hb.2.2.2.2; show _ < _; omega
  clear x0 x22 hb1 HB1 HF B0
  generalize w1.alloc (.cells #[.int .i64 1, .int .i64 ra, .int .i64 rb, .int .i64 rc, .int .i64 imm] 40) = w2 at B1 I1 ⊢
  obtain ⟨y0, y1, y2, y3, y4⟩ := id I1.out
  have xb := (cell_st B1.out).2.1 rb hb
  have xb' : w2.cell? ⟨w.heap.size, rb + 1, none⟩ = some (.int .u32 (s.r rb)) := by rw [Nat.add_comm]; exact xb
  have xc := (cell_st B1.out).2.1 rc hc
  have xc' : w2.cell? ⟨w.heap.size, rc + 1, none⟩ = some (.int .u32 (s.r rc)) := by rw [Nat.add_comm]; exact xc
  have hb' : (rb : Int) < 16 := by omega
  have hc' : (rc : Int) < 16 := by omega
  obtain ⟨x, ex⟩ : ∃ x, doZ 1 imm (s.r rb).toNat (s.r rc).toNat = x := ⟨_, rfl⟩
  rw [ex] at DO
  have WR : Hid (∀ W, Below w2.heap.size w2 W → Calls Tryd.prog 35 #[.agg C, .agg #[.int .i64 1, .int .i64 ra, .int .i64 rb, .int .i64 rc, .int .i64 imm], .int .u32 x] W (StPost W C (opZ 1 ra rb rc imm s))) := fun W hW => write_op (B1.out.later hW).st hs 1 ra rb rc imm x ha (by omega) (fun _ => ex.symm)
  clear ex hi hj
  go_upto_region 32 with fail
  refine wp_region_held_drew (S := fun w' => (At w' w.heap.size C ∧ w'.cell? ⟨w.heap.size, 1 + rb, none⟩ = some (.int .u32 (s.r rb)) ∧ w'.cell? ⟨w.heap.size, 1 + rc, none⟩ = some (.int .u32 (s.r rc))) ∧ InsAt w' w1.heap.size 1 ra rb rc imm) (by kernel_rfl) ?_ (fun hHeld => ?_)
  · exact ⟨⟨B1.out.at_, xb, xc⟩, I1.out⟩
  refine wpAnyH_take (i := 0) (oi := { dst := some 77, op := Op.load 32 (.tmp 3), type := _, pos := _, after := _, guard := none }) (v := .agg C) rfl (by kernel_rfl) (by kernel_rfl) (by kernel_rfl) (fun _ _ _ h => h) (yields_st (by rfl) (.tmp 3) rfl w.heap.size rfl B1.out.st (fun w hw => hw.1.1)) (by assumption) ?_
  try simp only [Act.put, List.setIfInBounds_toArray, List.set_cons_zero, List.set_cons_succ]
  refine wpAnyH_take (i := 1) (v := .agg #[.int .i64 1, .int .i64 ra, .int .i64 rb, .int .i64 rc, .int .i64 imm]) rfl (by kernel_rfl) (by kernel_rfl) (by kernel_rfl) (fun _ _ _ h => h) (Or.inl ⟨by rfl, ?_⟩) (by assumption) ?_
  · intro w hSw; (try dsimp only at hSw); obtain ⟨-, f0, f1, f2, f3, f4⟩ := hSw; first | (go_simp; done) | (go_simp; with_reducible rfl)
  try simp only [Act.put, List.setIfInBounds_toArray, List.set_cons_zero, List.set_cons_succ]
  refine wpAnyH_take (i := 2) (v := .agg #[.int .i64 1, .int .i64 ra, .int .i64 rb, .int .i64 rc, .int .i64 imm]) rfl (by kernel_rfl) (by kernel_rfl) (by kernel_rfl) (fun _ _ _ h => h) (Or.inl ⟨by rfl, ?_⟩) (by assumption) ?_
  · intro w hSw; (try dsimp only at hSw); obtain ⟨-, f0, f1, f2, f3, f4⟩ := hSw; first | (go_simp; done) | (go_simp; with_reducible rfl)
  try simp only [Act.put, List.setIfInBounds_toArray, List.set_cons_zero, List.set_cons_succ]
  refine wpAnyH_take (i := 3) (v := ?_) rfl (by kernel_rfl) (by kernel_rfl) (by kernel_rfl) (fun _ _ _ h => h) (Or.inl ⟨by rfl, ?_⟩) (by assumption) ?_
  rotate_left
  · intro w hSw; (try dsimp only at hSw); first | (go_simp; done) | (go_simp; with_reducible rfl)
  try simp only [Act.put, List.setIfInBounds_toArray, List.set_cons_zero, List.set_cons_succ]
  refine wpAnyH_take (i := 4) (v := .int .i64 rb) rfl (by kernel_rfl) (by kernel_rfl) (by kernel_rfl) (fun _ _ _ h => h) (Or.inl ⟨by rfl, ?_⟩) (by assumption) ?_
  · intro w hSw; (try dsimp only at hSw); obtain ⟨-, f0, f1, f2, f3, f4⟩ := hSw; first | (go_simp; done) | (go_simp; with_reducible rfl)
  try simp only [Act.put, List.setIfInBounds_toArray, List.set_cons_zero, List.set_cons_succ]
  refine wpAnyH_take (i := 5) (v := ?_) rfl (by kernel_rfl) (by kernel_rfl) (by kernel_rfl) (fun _ _ _ h => h) (Or.inl ⟨by rfl, ?_⟩) (by assumption) ?_
  rotate_left
  · intro w hSw; (try dsimp only at hSw); first | (go_simp; done) | (go_simp; with_reducible rfl)
  try simp only [Act.put, List.setIfInBounds_toArray, List.set_cons_zero, List.set_cons_succ]
  refine wpAnyH_take (i := 6) (v := ?_) rfl (by kernel_rfl) (by kernel_rfl) (by kernel_rfl) (fun _ _ _ h => h) (Or.inl ⟨by rfl, ?_⟩) (by assumption) ?_
  rotate_left
  · intro w hSw; (try dsimp only at hSw); first | (go_simp; done) | (go_simp; with_reducible rfl)
  try simp only [Act.put, List.setIfInBounds_toArray, List.set_cons_zero, List.set_cons_succ]
  refine wpAnyH_take (i := 7) (v := .int .u32 (s.r rb)) rfl (by kernel_rfl) (by kernel_rfl) (by kernel_rfl) (fun _ _ _ h => h) (Or.inl ⟨by rfl, ?_⟩) (by assumption) ?_
  · intro w hSw; (try dsimp only at hSw); obtain ⟨⟨-, fb, fc⟩, -⟩ := hSw; have fb' := fb; have fc' := fc; rw [Nat.add_comm] at fb' fc'; first | (go_simp; done) | (go_simp; with_reducible rfl)
  try simp only [Act.put, List.setIfInBounds_toArray, List.set_cons_zero, List.set_cons_succ]
  refine wpAnyH_take (i := 8) (v := ?_) rfl (by kernel_rfl) (by kernel_rfl) (by kernel_rfl) (fun _ _ _ h => h) (Or.inl ⟨by rfl, ?_⟩) (by assumption) ?_
  rotate_left
  · intro w hSw; (try dsimp only at hSw); first | (go_simp; done) | (go_simp; with_reducible rfl)
  try simp only [Act.put, List.setIfInBounds_toArray, List.set_cons_zero, List.set_cons_succ]
  refine wpAnyH_take (i := 9) (v := .int .i64 rc) rfl (by kernel_rfl) (by kernel_rfl) (by kernel_rfl) (fun _ _ _ h => h) (Or.inl ⟨by rfl, ?_⟩) (by assumption) ?_
  · intro w hSw; (try dsimp only at hSw); obtain ⟨-, f0, f1, f2, f3, f4⟩ := hSw; first | (go_simp; done) | (go_simp; with_reducible rfl)
  try simp only [Act.put, List.setIfInBounds_toArray, List.set_cons_zero, List.set_cons_succ]
  refine wpAnyH_take (i := 10) (v := ?_) rfl (by kernel_rfl) (by kernel_rfl) (by kernel_rfl) (fun _ _ _ h => h) (Or.inl ⟨by rfl, ?_⟩) (by assumption) ?_
  rotate_left
  · intro w hSw; (try dsimp only at hSw); first | (go_simp; done) | (go_simp; with_reducible rfl)
  try simp only [Act.put, List.setIfInBounds_toArray, List.set_cons_zero, List.set_cons_succ]
  refine wpAnyH_take (i := 11) (v := ?_) rfl (by kernel_rfl) (by kernel_rfl) (by kernel_rfl) (fun _ _ _ h => h) (Or.inl ⟨by rfl, ?_⟩) (by assumption) ?_
  rotate_left
  · intro w hSw; (try dsimp only at hSw); first | (go_simp; done) | (go_simp; with_reducible rfl)
  try simp only [Act.put, List.setIfInBounds_toArray, List.set_cons_zero, List.set_cons_succ]
  refine wpAnyH_take (i := 12) (v := .int .u32 (s.r rc)) rfl (by kernel_rfl) (by kernel_rfl) (by kernel_rfl) (fun _ _ _ h => h) (Or.inl ⟨by rfl, ?_⟩) (by assumption) ?_
  · intro w hSw; (try dsimp only at hSw); obtain ⟨⟨-, fb, fc⟩, -⟩ := hSw; have fb' := fb; have fc' := fc; rw [Nat.add_comm] at fb' fc'; first | (go_simp; done) | (go_simp; with_reducible rfl)
  try simp only [Act.put, List.setIfInBounds_toArray, List.set_cons_zero, List.set_cons_succ]
  refine wpAnyH_ready (rs := [13]) (by kernel_rfl) (by simp) (AllReadyH.cons (o := { dst := some 90, op := Op.call { callee := .value (.func 36), args := #[.tmp 79, .tmp 84, .tmp 89], argTypes := #[40, 26, 26] }, type := _, pos := _, after := _, guard := none }) rfl (fun K hK => ?_) AllReadyH.nil)
  go_simp
  refine (DO.out _).mono ?_
  rintro e w3 ⟨rfl, hb3⟩
  have b3 : Below w2.heap.size w2 w3 := bnext (Below.refl _ _).drew hb3
  refine hK.out _ _ ?_ (fun hHeld => ?_)
  · exact ⟨⟨B1.out.at_.later b3, cell_later' xb b3, cell_later' xc b3⟩, I1.out.later b3⟩
  clear hK K
  try simp only [Act.put, List.setIfInBounds_toArray, List.set_cons_zero, List.set_cons_succ]
  refine wpAnyH_ready (rs := [14]) (by kernel_rfl) (by simp) (AllReadyH.cons (o := { dst := some 91, op := Op.call { callee := .value (.func 35), args := #[.tmp 77, .tmp 78, .tmp 90], argTypes := #[32, 40, 26] }, type := _, pos := _, after := _, guard := none }) rfl (fun K hK => ?_) AllReadyH.nil)
  go_simp
  refine (WR.out _ b3).mono ?_
  rintro e w9 ⟨C9, rfl, h9, v9, b9⟩
  have b4 : Below w2.heap.size w2 w9 := bnext b3 b9
  refine hK.out _ _ ?_ (fun hHeld => ?_)
  · exact ⟨⟨B1.out.at_.later b4, cell_later' xb b4, cell_later' xc b4⟩, I1.out.later b4⟩
  clear hK K
  try simp only [Act.put, List.setIfInBounds_toArray, List.set_cons_zero, List.set_cons_succ]
  refine wpAnyH_ready (rs := [15]) (by kernel_rfl) (by simp) (AllReadyH.cons (o := { dst := none, op := Op.store 32 (.tmp 4) (.tmp 91), type := _, pos := _, after := _, guard := none }) rfl (fun K hK => ?_) AllReadyH.nil)
  rw [if_pos (by rfl)]
  refine wp_store_mid 32 (.tmp 4) (.tmp 91) rfl (w.heap.size + 1) 0 C9 rfl rfl (by rw [(st_shape h9).1]; exact there_later B1.out.room b4) (st_info h9).1 (st_shape h9).2 ?_
  have n1 : w.heap.size ≠ w.heap.size + 1 := by omega
  have n2 : w1.heap.size ≠ w.heap.size + 1 := by have := L1.out; omega
  refine hK.out _ _ ?_ (fun hHeld => ?_)
  · exact ⟨⟨fun j u hu => (cell_setCells_far _ _ _ _ _ n1).trans (B1.out.at_.later b4 j u hu), (cell_setCells_far _ _ _ _ _ n1).trans (cell_later' xb b4), (cell_setCells_far _ _ _ _ _ n1).trans (cell_later' xc b4)⟩, (cell_setCells_far _ _ _ _ _ n2).trans (cell_later' y0 b4), (cell_setCells_far _ _ _ _ _ n2).trans (cell_later' y1 b4), (cell_setCells_far _ _ _ _ _ n2).trans (cell_later' y2 b4), (cell_setCells_far _ _ _ _ _ n2).trans (cell_later' y3 b4), (cell_setCells_far _ _ _ _ _ n2).trans (cell_later' y4 b4)⟩
  clear hK K
  try simp only [Act.put, List.setIfInBounds_toArray, List.set_cons_zero, List.set_cons_succ]
  refine wpAnyH_done (by kernel_rfl) ?_ _
  try simp only [Act.put, List.setIfInBounds_toArray, List.set_cons_zero, List.set_cons_succ]
  go_wp2
  have TT := Told.call B1.out b4 h9 (fun g hg ha => v9 g (Nat.lt_of_lt_of_le hg b3.size) ha)
  exact bodyPost_ret (v := .agg C9) (results_st rfl _ (w.heap.size + 1) (by first | rfl | simp) TT.st _ TT.at_) rfl TT.post
set_option maxRecDepth 100000 in
set_option maxHeartbeats 1000000 in
theorem step_2 {w : World} {C : Array Value} {s : St} (h : IsSt w (.agg C) s) (hs : Small s) (he : s.en = false) (a : Option Addr) (n c : Nat) (ra rb rc : Nat) (imm : Int) (ha : ra < 16) (hb : rb < 16) (hc : rc < 16) (hi : 8 ≤ (2 : Int) ∧ (2 : Int) ≤ 10 → -32768 ≤ imm ∧ imm ≤ 65535) (hj : (2 : Int) = 10 → 0 ≤ imm)
    (hF : ∀ W, Below w.heap.size w W → Calls Tryd.prog 24 #[.slice a n c, .int .i64 s.at_] W fun e w' => e = .returned (.tuple #[.agg #[.int .i64 2, .int .i64 ra, .int .i64 rb, .int .i64 rc, .int .i64 imm], .bool true]) ∧ Below W.heap.size W w') :
    Calls Tryd.prog 13 #[.slice a n c, .agg C] w (StPost w C (opZ 2 ra rb rc imm s)) := by
  have DO : Hid (∀ W, Calls Tryd.prog 36 #[.agg #[.int .i64 2, .int .i64 ra, .int .i64 rb, .int .i64 rc, .int .i64 imm], .int .u32 (s.r rb), .int .u32 (s.r rc)] W fun e w' => e = .returned (.int .u32 (doZ 2 imm (s.r rb).toNat (s.r rc).toNat)) ∧ Below W.heap.size W w') := fun W => by
    have h1 := hs.1.2 rb
    have h2 := hs.1.2 rc
    have h := do_any 2 ra rb rc imm (s.r rb).toNat (s.r rc).toNat W (by omega) (by omega) (by omega) (by omega) hi hj
    rwa [Int.toNat_of_nonneg h1.1, Int.toNat_of_nonneg h2.1] at h
  have B0 : Hid (Boxed w ((w.alloc (.cells C 32)).alloc (.cells noSt 32)) w.heap.size (w.heap.size + 1) C C s) := Boxed.new h _ _
  clear h
  go_enter Tryd.func13, Tryd.ntmps13
  go_upto_region 1 with fail
  rw [noSt_def]
  generalize (w.alloc (.cells C 32)).alloc (.cells noSt 32) = w0 at B0 ⊢
  have HF : Hid (∀ W, Below w0.heap.size w0 W → Calls Tryd.prog 24 #[.slice a n c, .int .i64 s.at_] W fun e w' => e = .returned (.tuple #[.agg #[.int .i64 2, .int .i64 ra, .int .i64 rb, .int .i64 rc, .int .i64 imm], .bool true]) ∧ Below W.heap.size W w') := fun W hW => hF W (bnext B0.out.bel hW)
  clear hF
  obtain ⟨x0, -, -, x22, -, -⟩ := cell_st B0.out
  rw [he] at x22
  go_upto_region 4 with (go_at_call 24; refine (HF.out _ (Below.refl _ _)).mono ?_; rintro e w1 ⟨rfl, hb1⟩; have HB1 : Hid (Below w0.heap.size w0 w1) := hb1)
  have B1 : Hid (Boxed w (w1.alloc (.cells #[.int .i64 2, .int .i64 ra, .int .i64 rb, .int .i64 rc, .int .i64 imm] 40)) w.heap.size (w.heap.size + 1) C C s) := (B0.out.later HB1.out).later ((Below.refl _ _).alloc (Nat.le_refl _) _)
  have I1 : Hid (InsAt (w1.alloc (.cells #[.int .i64 2, .int .i64 ra, .int .i64 rb, .int .i64 rc, .int .i64 imm] 40)) w1.heap.size 2 ra rb rc imm) := InsAt.new _ _ _ _ _ _ _
  have L1 : Hid (w.heap.size + 1 < w1.heap.size) := by have h1 := B0.out.hb; have h2 := HB1.out.size; have h3 := B0.out.hb.2.2.2.2; show _ < _; omega
  clear x0 x22 hb1 HB1 HF B0
  generalize w1.alloc (.cells #[.int .i64 2, .int .i64 ra, .int .i64 rb, .int .i64 rc, .int .i64 imm] 40) = w2 at B1 I1 ⊢
  obtain ⟨y0, y1, y2, y3, y4⟩ := id I1.out
  have xb := (cell_st B1.out).2.1 rb hb
  have xb' : w2.cell? ⟨w.heap.size, rb + 1, none⟩ = some (.int .u32 (s.r rb)) := by rw [Nat.add_comm]; exact xb
  have xc := (cell_st B1.out).2.1 rc hc
  have xc' : w2.cell? ⟨w.heap.size, rc + 1, none⟩ = some (.int .u32 (s.r rc)) := by rw [Nat.add_comm]; exact xc
  have hb' : (rb : Int) < 16 := by omega
  have hc' : (rc : Int) < 16 := by omega
  obtain ⟨x, ex⟩ : ∃ x, doZ 2 imm (s.r rb).toNat (s.r rc).toNat = x := ⟨_, rfl⟩
  rw [ex] at DO
  have WR : Hid (∀ W, Below w2.heap.size w2 W → Calls Tryd.prog 35 #[.agg C, .agg #[.int .i64 2, .int .i64 ra, .int .i64 rb, .int .i64 rc, .int .i64 imm], .int .u32 x] W (StPost W C (opZ 2 ra rb rc imm s))) := fun W hW => write_op (B1.out.later hW).st hs 2 ra rb rc imm x ha (by omega) (fun _ => ex.symm)
  clear ex hi hj
  go_upto_region 32 with fail
  refine wp_region_held_drew (S := fun w' => (At w' w.heap.size C ∧ w'.cell? ⟨w.heap.size, 1 + rb, none⟩ = some (.int .u32 (s.r rb)) ∧ w'.cell? ⟨w.heap.size, 1 + rc, none⟩ = some (.int .u32 (s.r rc))) ∧ InsAt w' w1.heap.size 2 ra rb rc imm) (by kernel_rfl) ?_ (fun hHeld => ?_)
  · exact ⟨⟨B1.out.at_, xb, xc⟩, I1.out⟩
  refine wpAnyH_take (i := 0) (oi := { dst := some 77, op := Op.load 32 (.tmp 3), type := _, pos := _, after := _, guard := none }) (v := .agg C) rfl (by kernel_rfl) (by kernel_rfl) (by kernel_rfl) (fun _ _ _ h => h) (yields_st (by rfl) (.tmp 3) rfl w.heap.size rfl B1.out.st (fun w hw => hw.1.1)) (by assumption) ?_
  try simp only [Act.put, List.setIfInBounds_toArray, List.set_cons_zero, List.set_cons_succ]
  refine wpAnyH_take (i := 1) (v := .agg #[.int .i64 2, .int .i64 ra, .int .i64 rb, .int .i64 rc, .int .i64 imm]) rfl (by kernel_rfl) (by kernel_rfl) (by kernel_rfl) (fun _ _ _ h => h) (Or.inl ⟨by rfl, ?_⟩) (by assumption) ?_
  · intro w hSw; (try dsimp only at hSw); obtain ⟨-, f0, f1, f2, f3, f4⟩ := hSw; first | (go_simp; done) | (go_simp; with_reducible rfl)
  try simp only [Act.put, List.setIfInBounds_toArray, List.set_cons_zero, List.set_cons_succ]
  refine wpAnyH_take (i := 2) (v := .agg #[.int .i64 2, .int .i64 ra, .int .i64 rb, .int .i64 rc, .int .i64 imm]) rfl (by kernel_rfl) (by kernel_rfl) (by kernel_rfl) (fun _ _ _ h => h) (Or.inl ⟨by rfl, ?_⟩) (by assumption) ?_
  · intro w hSw; (try dsimp only at hSw); obtain ⟨-, f0, f1, f2, f3, f4⟩ := hSw; first | (go_simp; done) | (go_simp; with_reducible rfl)
  try simp only [Act.put, List.setIfInBounds_toArray, List.set_cons_zero, List.set_cons_succ]
  refine wpAnyH_take (i := 3) (v := ?_) rfl (by kernel_rfl) (by kernel_rfl) (by kernel_rfl) (fun _ _ _ h => h) (Or.inl ⟨by rfl, ?_⟩) (by assumption) ?_
  rotate_left
  · intro w hSw; (try dsimp only at hSw); first | (go_simp; done) | (go_simp; with_reducible rfl)
  try simp only [Act.put, List.setIfInBounds_toArray, List.set_cons_zero, List.set_cons_succ]
  refine wpAnyH_take (i := 4) (v := .int .i64 rb) rfl (by kernel_rfl) (by kernel_rfl) (by kernel_rfl) (fun _ _ _ h => h) (Or.inl ⟨by rfl, ?_⟩) (by assumption) ?_
  · intro w hSw; (try dsimp only at hSw); obtain ⟨-, f0, f1, f2, f3, f4⟩ := hSw; first | (go_simp; done) | (go_simp; with_reducible rfl)
  try simp only [Act.put, List.setIfInBounds_toArray, List.set_cons_zero, List.set_cons_succ]
  refine wpAnyH_take (i := 5) (v := ?_) rfl (by kernel_rfl) (by kernel_rfl) (by kernel_rfl) (fun _ _ _ h => h) (Or.inl ⟨by rfl, ?_⟩) (by assumption) ?_
  rotate_left
  · intro w hSw; (try dsimp only at hSw); first | (go_simp; done) | (go_simp; with_reducible rfl)
  try simp only [Act.put, List.setIfInBounds_toArray, List.set_cons_zero, List.set_cons_succ]
  refine wpAnyH_take (i := 6) (v := ?_) rfl (by kernel_rfl) (by kernel_rfl) (by kernel_rfl) (fun _ _ _ h => h) (Or.inl ⟨by rfl, ?_⟩) (by assumption) ?_
  rotate_left
  · intro w hSw; (try dsimp only at hSw); first | (go_simp; done) | (go_simp; with_reducible rfl)
  try simp only [Act.put, List.setIfInBounds_toArray, List.set_cons_zero, List.set_cons_succ]
  refine wpAnyH_take (i := 7) (v := .int .u32 (s.r rb)) rfl (by kernel_rfl) (by kernel_rfl) (by kernel_rfl) (fun _ _ _ h => h) (Or.inl ⟨by rfl, ?_⟩) (by assumption) ?_
  · intro w hSw; (try dsimp only at hSw); obtain ⟨⟨-, fb, fc⟩, -⟩ := hSw; have fb' := fb; have fc' := fc; rw [Nat.add_comm] at fb' fc'; first | (go_simp; done) | (go_simp; with_reducible rfl)
  try simp only [Act.put, List.setIfInBounds_toArray, List.set_cons_zero, List.set_cons_succ]
  refine wpAnyH_take (i := 8) (v := ?_) rfl (by kernel_rfl) (by kernel_rfl) (by kernel_rfl) (fun _ _ _ h => h) (Or.inl ⟨by rfl, ?_⟩) (by assumption) ?_
  rotate_left
  · intro w hSw; (try dsimp only at hSw); first | (go_simp; done) | (go_simp; with_reducible rfl)
  try simp only [Act.put, List.setIfInBounds_toArray, List.set_cons_zero, List.set_cons_succ]
  refine wpAnyH_take (i := 9) (v := .int .i64 rc) rfl (by kernel_rfl) (by kernel_rfl) (by kernel_rfl) (fun _ _ _ h => h) (Or.inl ⟨by rfl, ?_⟩) (by assumption) ?_
  · intro w hSw; (try dsimp only at hSw); obtain ⟨-, f0, f1, f2, f3, f4⟩ := hSw; first | (go_simp; done) | (go_simp; with_reducible rfl)
  try simp only [Act.put, List.setIfInBounds_toArray, List.set_cons_zero, List.set_cons_succ]
  refine wpAnyH_take (i := 10) (v := ?_) rfl (by kernel_rfl) (by kernel_rfl) (by kernel_rfl) (fun _ _ _ h => h) (Or.inl ⟨by rfl, ?_⟩) (by assumption) ?_
  rotate_left
  · intro w hSw; (try dsimp only at hSw); first | (go_simp; done) | (go_simp; with_reducible rfl)
  try simp only [Act.put, List.setIfInBounds_toArray, List.set_cons_zero, List.set_cons_succ]
  refine wpAnyH_take (i := 11) (v := ?_) rfl (by kernel_rfl) (by kernel_rfl) (by kernel_rfl) (fun _ _ _ h => h) (Or.inl ⟨by rfl, ?_⟩) (by assumption) ?_
  rotate_left
  · intro w hSw; (try dsimp only at hSw); first | (go_simp; done) | (go_simp; with_reducible rfl)
  try simp only [Act.put, List.setIfInBounds_toArray, List.set_cons_zero, List.set_cons_succ]
  refine wpAnyH_take (i := 12) (v := .int .u32 (s.r rc)) rfl (by kernel_rfl) (by kernel_rfl) (by kernel_rfl) (fun _ _ _ h => h) (Or.inl ⟨by rfl, ?_⟩) (by assumption) ?_
  · intro w hSw; (try dsimp only at hSw); obtain ⟨⟨-, fb, fc⟩, -⟩ := hSw; have fb' := fb; have fc' := fc; rw [Nat.add_comm] at fb' fc'; first | (go_simp; done) | (go_simp; with_reducible rfl)
  try simp only [Act.put, List.setIfInBounds_toArray, List.set_cons_zero, List.set_cons_succ]
  refine wpAnyH_ready (rs := [13]) (by kernel_rfl) (by simp) (AllReadyH.cons (o := { dst := some 90, op := Op.call { callee := .value (.func 36), args := #[.tmp 79, .tmp 84, .tmp 89], argTypes := #[40, 26, 26] }, type := _, pos := _, after := _, guard := none }) rfl (fun K hK => ?_) AllReadyH.nil)
  go_simp
  refine (DO.out _).mono ?_
  rintro e w3 ⟨rfl, hb3⟩
  have b3 : Below w2.heap.size w2 w3 := bnext (Below.refl _ _).drew hb3
  refine hK.out _ _ ?_ (fun hHeld => ?_)
  · exact ⟨⟨B1.out.at_.later b3, cell_later' xb b3, cell_later' xc b3⟩, I1.out.later b3⟩
  clear hK K
  try simp only [Act.put, List.setIfInBounds_toArray, List.set_cons_zero, List.set_cons_succ]
  refine wpAnyH_ready (rs := [14]) (by kernel_rfl) (by simp) (AllReadyH.cons (o := { dst := some 91, op := Op.call { callee := .value (.func 35), args := #[.tmp 77, .tmp 78, .tmp 90], argTypes := #[32, 40, 26] }, type := _, pos := _, after := _, guard := none }) rfl (fun K hK => ?_) AllReadyH.nil)
  go_simp
  refine (WR.out _ b3).mono ?_
  rintro e w9 ⟨C9, rfl, h9, v9, b9⟩
  have b4 : Below w2.heap.size w2 w9 := bnext b3 b9
  refine hK.out _ _ ?_ (fun hHeld => ?_)
  · exact ⟨⟨B1.out.at_.later b4, cell_later' xb b4, cell_later' xc b4⟩, I1.out.later b4⟩
  clear hK K
  try simp only [Act.put, List.setIfInBounds_toArray, List.set_cons_zero, List.set_cons_succ]
  refine wpAnyH_ready (rs := [15]) (by kernel_rfl) (by simp) (AllReadyH.cons (o := { dst := none, op := Op.store 32 (.tmp 4) (.tmp 91), type := _, pos := _, after := _, guard := none }) rfl (fun K hK => ?_) AllReadyH.nil)
  rw [if_pos (by rfl)]
  refine wp_store_mid 32 (.tmp 4) (.tmp 91) rfl (w.heap.size + 1) 0 C9 rfl rfl (by rw [(st_shape h9).1]; exact there_later B1.out.room b4) (st_info h9).1 (st_shape h9).2 ?_
  have n1 : w.heap.size ≠ w.heap.size + 1 := by omega
  have n2 : w1.heap.size ≠ w.heap.size + 1 := by have := L1.out; omega
  refine hK.out _ _ ?_ (fun hHeld => ?_)
  · exact ⟨⟨fun j u hu => (cell_setCells_far _ _ _ _ _ n1).trans (B1.out.at_.later b4 j u hu), (cell_setCells_far _ _ _ _ _ n1).trans (cell_later' xb b4), (cell_setCells_far _ _ _ _ _ n1).trans (cell_later' xc b4)⟩, (cell_setCells_far _ _ _ _ _ n2).trans (cell_later' y0 b4), (cell_setCells_far _ _ _ _ _ n2).trans (cell_later' y1 b4), (cell_setCells_far _ _ _ _ _ n2).trans (cell_later' y2 b4), (cell_setCells_far _ _ _ _ _ n2).trans (cell_later' y3 b4), (cell_setCells_far _ _ _ _ _ n2).trans (cell_later' y4 b4)⟩
  clear hK K
  try simp only [Act.put, List.setIfInBounds_toArray, List.set_cons_zero, List.set_cons_succ]
  refine wpAnyH_done (by kernel_rfl) ?_ _
  try simp only [Act.put, List.setIfInBounds_toArray, List.set_cons_zero, List.set_cons_succ]
  go_wp2
  have TT := Told.call B1.out b4 h9 (fun g hg ha => v9 g (Nat.lt_of_lt_of_le hg b3.size) ha)
  exact bodyPost_ret (v := .agg C9) (results_st rfl _ (w.heap.size + 1) (by first | rfl | simp) TT.st _ TT.at_) rfl TT.post
set_option maxRecDepth 100000 in
set_option maxHeartbeats 1000000 in
theorem step_3 {w : World} {C : Array Value} {s : St} (h : IsSt w (.agg C) s) (hs : Small s) (he : s.en = false) (a : Option Addr) (n c : Nat) (ra rb rc : Nat) (imm : Int) (ha : ra < 16) (hb : rb < 16) (hc : rc < 16) (hi : 8 ≤ (3 : Int) ∧ (3 : Int) ≤ 10 → -32768 ≤ imm ∧ imm ≤ 65535) (hj : (3 : Int) = 10 → 0 ≤ imm)
    (hF : ∀ W, Below w.heap.size w W → Calls Tryd.prog 24 #[.slice a n c, .int .i64 s.at_] W fun e w' => e = .returned (.tuple #[.agg #[.int .i64 3, .int .i64 ra, .int .i64 rb, .int .i64 rc, .int .i64 imm], .bool true]) ∧ Below W.heap.size W w') :
    Calls Tryd.prog 13 #[.slice a n c, .agg C] w (StPost w C (opZ 3 ra rb rc imm s)) := by
  have DO : Hid (∀ W, Calls Tryd.prog 36 #[.agg #[.int .i64 3, .int .i64 ra, .int .i64 rb, .int .i64 rc, .int .i64 imm], .int .u32 (s.r rb), .int .u32 (s.r rc)] W fun e w' => e = .returned (.int .u32 (doZ 3 imm (s.r rb).toNat (s.r rc).toNat)) ∧ Below W.heap.size W w') := fun W => by
    have h1 := hs.1.2 rb
    have h2 := hs.1.2 rc
    have h := do_any 3 ra rb rc imm (s.r rb).toNat (s.r rc).toNat W (by omega) (by omega) (by omega) (by omega) hi hj
    rwa [Int.toNat_of_nonneg h1.1, Int.toNat_of_nonneg h2.1] at h
  have B0 : Hid (Boxed w ((w.alloc (.cells C 32)).alloc (.cells noSt 32)) w.heap.size (w.heap.size + 1) C C s) := Boxed.new h _ _
  clear h
  go_enter Tryd.func13, Tryd.ntmps13
  go_upto_region 1 with fail
  rw [noSt_def]
  generalize (w.alloc (.cells C 32)).alloc (.cells noSt 32) = w0 at B0 ⊢
  have HF : Hid (∀ W, Below w0.heap.size w0 W → Calls Tryd.prog 24 #[.slice a n c, .int .i64 s.at_] W fun e w' => e = .returned (.tuple #[.agg #[.int .i64 3, .int .i64 ra, .int .i64 rb, .int .i64 rc, .int .i64 imm], .bool true]) ∧ Below W.heap.size W w') := fun W hW => hF W (bnext B0.out.bel hW)
  clear hF
  obtain ⟨x0, -, -, x22, -, -⟩ := cell_st B0.out
  rw [he] at x22
  go_upto_region 4 with (go_at_call 24; refine (HF.out _ (Below.refl _ _)).mono ?_; rintro e w1 ⟨rfl, hb1⟩; have HB1 : Hid (Below w0.heap.size w0 w1) := hb1)
  have B1 : Hid (Boxed w (w1.alloc (.cells #[.int .i64 3, .int .i64 ra, .int .i64 rb, .int .i64 rc, .int .i64 imm] 40)) w.heap.size (w.heap.size + 1) C C s) := (B0.out.later HB1.out).later ((Below.refl _ _).alloc (Nat.le_refl _) _)
  have I1 : Hid (InsAt (w1.alloc (.cells #[.int .i64 3, .int .i64 ra, .int .i64 rb, .int .i64 rc, .int .i64 imm] 40)) w1.heap.size 3 ra rb rc imm) := InsAt.new _ _ _ _ _ _ _
  have L1 : Hid (w.heap.size + 1 < w1.heap.size) := by have h1 := B0.out.hb; have h2 := HB1.out.size; have h3 := B0.out.hb.2.2.2.2; show _ < _; omega
  clear x0 x22 hb1 HB1 HF B0
  generalize w1.alloc (.cells #[.int .i64 3, .int .i64 ra, .int .i64 rb, .int .i64 rc, .int .i64 imm] 40) = w2 at B1 I1 ⊢
  obtain ⟨y0, y1, y2, y3, y4⟩ := id I1.out
  have xb := (cell_st B1.out).2.1 rb hb
  have xb' : w2.cell? ⟨w.heap.size, rb + 1, none⟩ = some (.int .u32 (s.r rb)) := by rw [Nat.add_comm]; exact xb
  have xc := (cell_st B1.out).2.1 rc hc
  have xc' : w2.cell? ⟨w.heap.size, rc + 1, none⟩ = some (.int .u32 (s.r rc)) := by rw [Nat.add_comm]; exact xc
  have hb' : (rb : Int) < 16 := by omega
  have hc' : (rc : Int) < 16 := by omega
  obtain ⟨x, ex⟩ : ∃ x, doZ 3 imm (s.r rb).toNat (s.r rc).toNat = x := ⟨_, rfl⟩
  rw [ex] at DO
  have WR : Hid (∀ W, Below w2.heap.size w2 W → Calls Tryd.prog 35 #[.agg C, .agg #[.int .i64 3, .int .i64 ra, .int .i64 rb, .int .i64 rc, .int .i64 imm], .int .u32 x] W (StPost W C (opZ 3 ra rb rc imm s))) := fun W hW => write_op (B1.out.later hW).st hs 3 ra rb rc imm x ha (by omega) (fun _ => ex.symm)
  clear ex hi hj
  go_upto_region 32 with fail
  refine wp_region_held_drew (S := fun w' => (At w' w.heap.size C ∧ w'.cell? ⟨w.heap.size, 1 + rb, none⟩ = some (.int .u32 (s.r rb)) ∧ w'.cell? ⟨w.heap.size, 1 + rc, none⟩ = some (.int .u32 (s.r rc))) ∧ InsAt w' w1.heap.size 3 ra rb rc imm) (by kernel_rfl) ?_ (fun hHeld => ?_)
  · exact ⟨⟨B1.out.at_, xb, xc⟩, I1.out⟩
  refine wpAnyH_take (i := 0) (oi := { dst := some 77, op := Op.load 32 (.tmp 3), type := _, pos := _, after := _, guard := none }) (v := .agg C) rfl (by kernel_rfl) (by kernel_rfl) (by kernel_rfl) (fun _ _ _ h => h) (yields_st (by rfl) (.tmp 3) rfl w.heap.size rfl B1.out.st (fun w hw => hw.1.1)) (by assumption) ?_
  try simp only [Act.put, List.setIfInBounds_toArray, List.set_cons_zero, List.set_cons_succ]
  refine wpAnyH_take (i := 1) (v := .agg #[.int .i64 3, .int .i64 ra, .int .i64 rb, .int .i64 rc, .int .i64 imm]) rfl (by kernel_rfl) (by kernel_rfl) (by kernel_rfl) (fun _ _ _ h => h) (Or.inl ⟨by rfl, ?_⟩) (by assumption) ?_
  · intro w hSw; (try dsimp only at hSw); obtain ⟨-, f0, f1, f2, f3, f4⟩ := hSw; first | (go_simp; done) | (go_simp; with_reducible rfl)
  try simp only [Act.put, List.setIfInBounds_toArray, List.set_cons_zero, List.set_cons_succ]
  refine wpAnyH_take (i := 2) (v := .agg #[.int .i64 3, .int .i64 ra, .int .i64 rb, .int .i64 rc, .int .i64 imm]) rfl (by kernel_rfl) (by kernel_rfl) (by kernel_rfl) (fun _ _ _ h => h) (Or.inl ⟨by rfl, ?_⟩) (by assumption) ?_
  · intro w hSw; (try dsimp only at hSw); obtain ⟨-, f0, f1, f2, f3, f4⟩ := hSw; first | (go_simp; done) | (go_simp; with_reducible rfl)
  try simp only [Act.put, List.setIfInBounds_toArray, List.set_cons_zero, List.set_cons_succ]
  refine wpAnyH_take (i := 3) (v := ?_) rfl (by kernel_rfl) (by kernel_rfl) (by kernel_rfl) (fun _ _ _ h => h) (Or.inl ⟨by rfl, ?_⟩) (by assumption) ?_
  rotate_left
  · intro w hSw; (try dsimp only at hSw); first | (go_simp; done) | (go_simp; with_reducible rfl)
  try simp only [Act.put, List.setIfInBounds_toArray, List.set_cons_zero, List.set_cons_succ]
  refine wpAnyH_take (i := 4) (v := .int .i64 rb) rfl (by kernel_rfl) (by kernel_rfl) (by kernel_rfl) (fun _ _ _ h => h) (Or.inl ⟨by rfl, ?_⟩) (by assumption) ?_
  · intro w hSw; (try dsimp only at hSw); obtain ⟨-, f0, f1, f2, f3, f4⟩ := hSw; first | (go_simp; done) | (go_simp; with_reducible rfl)
  try simp only [Act.put, List.setIfInBounds_toArray, List.set_cons_zero, List.set_cons_succ]
  refine wpAnyH_take (i := 5) (v := ?_) rfl (by kernel_rfl) (by kernel_rfl) (by kernel_rfl) (fun _ _ _ h => h) (Or.inl ⟨by rfl, ?_⟩) (by assumption) ?_
  rotate_left
  · intro w hSw; (try dsimp only at hSw); first | (go_simp; done) | (go_simp; with_reducible rfl)
  try simp only [Act.put, List.setIfInBounds_toArray, List.set_cons_zero, List.set_cons_succ]
  refine wpAnyH_take (i := 6) (v := ?_) rfl (by kernel_rfl) (by kernel_rfl) (by kernel_rfl) (fun _ _ _ h => h) (Or.inl ⟨by rfl, ?_⟩) (by assumption) ?_
  rotate_left
  · intro w hSw; (try dsimp only at hSw); first | (go_simp; done) | (go_simp; with_reducible rfl)
  try simp only [Act.put, List.setIfInBounds_toArray, List.set_cons_zero, List.set_cons_succ]
  refine wpAnyH_take (i := 7) (v := .int .u32 (s.r rb)) rfl (by kernel_rfl) (by kernel_rfl) (by kernel_rfl) (fun _ _ _ h => h) (Or.inl ⟨by rfl, ?_⟩) (by assumption) ?_
  · intro w hSw; (try dsimp only at hSw); obtain ⟨⟨-, fb, fc⟩, -⟩ := hSw; have fb' := fb; have fc' := fc; rw [Nat.add_comm] at fb' fc'; first | (go_simp; done) | (go_simp; with_reducible rfl)
  try simp only [Act.put, List.setIfInBounds_toArray, List.set_cons_zero, List.set_cons_succ]
  refine wpAnyH_take (i := 8) (v := ?_) rfl (by kernel_rfl) (by kernel_rfl) (by kernel_rfl) (fun _ _ _ h => h) (Or.inl ⟨by rfl, ?_⟩) (by assumption) ?_
  rotate_left
  · intro w hSw; (try dsimp only at hSw); first | (go_simp; done) | (go_simp; with_reducible rfl)
  try simp only [Act.put, List.setIfInBounds_toArray, List.set_cons_zero, List.set_cons_succ]
  refine wpAnyH_take (i := 9) (v := .int .i64 rc) rfl (by kernel_rfl) (by kernel_rfl) (by kernel_rfl) (fun _ _ _ h => h) (Or.inl ⟨by rfl, ?_⟩) (by assumption) ?_
  · intro w hSw; (try dsimp only at hSw); obtain ⟨-, f0, f1, f2, f3, f4⟩ := hSw; first | (go_simp; done) | (go_simp; with_reducible rfl)
  try simp only [Act.put, List.setIfInBounds_toArray, List.set_cons_zero, List.set_cons_succ]
  refine wpAnyH_take (i := 10) (v := ?_) rfl (by kernel_rfl) (by kernel_rfl) (by kernel_rfl) (fun _ _ _ h => h) (Or.inl ⟨by rfl, ?_⟩) (by assumption) ?_
  rotate_left
  · intro w hSw; (try dsimp only at hSw); first | (go_simp; done) | (go_simp; with_reducible rfl)
  try simp only [Act.put, List.setIfInBounds_toArray, List.set_cons_zero, List.set_cons_succ]
  refine wpAnyH_take (i := 11) (v := ?_) rfl (by kernel_rfl) (by kernel_rfl) (by kernel_rfl) (fun _ _ _ h => h) (Or.inl ⟨by rfl, ?_⟩) (by assumption) ?_
  rotate_left
  · intro w hSw; (try dsimp only at hSw); first | (go_simp; done) | (go_simp; with_reducible rfl)
  try simp only [Act.put, List.setIfInBounds_toArray, List.set_cons_zero, List.set_cons_succ]
  refine wpAnyH_take (i := 12) (v := .int .u32 (s.r rc)) rfl (by kernel_rfl) (by kernel_rfl) (by kernel_rfl) (fun _ _ _ h => h) (Or.inl ⟨by rfl, ?_⟩) (by assumption) ?_
  · intro w hSw; (try dsimp only at hSw); obtain ⟨⟨-, fb, fc⟩, -⟩ := hSw; have fb' := fb; have fc' := fc; rw [Nat.add_comm] at fb' fc'; first | (go_simp; done) | (go_simp; with_reducible rfl)
  try simp only [Act.put, List.setIfInBounds_toArray, List.set_cons_zero, List.set_cons_succ]
  refine wpAnyH_ready (rs := [13]) (by kernel_rfl) (by simp) (AllReadyH.cons (o := { dst := some 90, op := Op.call { callee := .value (.func 36), args := #[.tmp 79, .tmp 84, .tmp 89], argTypes := #[40, 26, 26] }, type := _, pos := _, after := _, guard := none }) rfl (fun K hK => ?_) AllReadyH.nil)
  go_simp
  refine (DO.out _).mono ?_
  rintro e w3 ⟨rfl, hb3⟩
  have b3 : Below w2.heap.size w2 w3 := bnext (Below.refl _ _).drew hb3
  refine hK.out _ _ ?_ (fun hHeld => ?_)
  · exact ⟨⟨B1.out.at_.later b3, cell_later' xb b3, cell_later' xc b3⟩, I1.out.later b3⟩
  clear hK K
  try simp only [Act.put, List.setIfInBounds_toArray, List.set_cons_zero, List.set_cons_succ]
  refine wpAnyH_ready (rs := [14]) (by kernel_rfl) (by simp) (AllReadyH.cons (o := { dst := some 91, op := Op.call { callee := .value (.func 35), args := #[.tmp 77, .tmp 78, .tmp 90], argTypes := #[32, 40, 26] }, type := _, pos := _, after := _, guard := none }) rfl (fun K hK => ?_) AllReadyH.nil)
  go_simp
  refine (WR.out _ b3).mono ?_
  rintro e w9 ⟨C9, rfl, h9, v9, b9⟩
  have b4 : Below w2.heap.size w2 w9 := bnext b3 b9
  refine hK.out _ _ ?_ (fun hHeld => ?_)
  · exact ⟨⟨B1.out.at_.later b4, cell_later' xb b4, cell_later' xc b4⟩, I1.out.later b4⟩
  clear hK K
  try simp only [Act.put, List.setIfInBounds_toArray, List.set_cons_zero, List.set_cons_succ]
  refine wpAnyH_ready (rs := [15]) (by kernel_rfl) (by simp) (AllReadyH.cons (o := { dst := none, op := Op.store 32 (.tmp 4) (.tmp 91), type := _, pos := _, after := _, guard := none }) rfl (fun K hK => ?_) AllReadyH.nil)
  rw [if_pos (by rfl)]
  refine wp_store_mid 32 (.tmp 4) (.tmp 91) rfl (w.heap.size + 1) 0 C9 rfl rfl (by rw [(st_shape h9).1]; exact there_later B1.out.room b4) (st_info h9).1 (st_shape h9).2 ?_
  have n1 : w.heap.size ≠ w.heap.size + 1 := by omega
  have n2 : w1.heap.size ≠ w.heap.size + 1 := by have := L1.out; omega
  refine hK.out _ _ ?_ (fun hHeld => ?_)
  · exact ⟨⟨fun j u hu => (cell_setCells_far _ _ _ _ _ n1).trans (B1.out.at_.later b4 j u hu), (cell_setCells_far _ _ _ _ _ n1).trans (cell_later' xb b4), (cell_setCells_far _ _ _ _ _ n1).trans (cell_later' xc b4)⟩, (cell_setCells_far _ _ _ _ _ n2).trans (cell_later' y0 b4), (cell_setCells_far _ _ _ _ _ n2).trans (cell_later' y1 b4), (cell_setCells_far _ _ _ _ _ n2).trans (cell_later' y2 b4), (cell_setCells_far _ _ _ _ _ n2).trans (cell_later' y3 b4), (cell_setCells_far _ _ _ _ _ n2).trans (cell_later' y4 b4)⟩
  clear hK K
  try simp only [Act.put, List.setIfInBounds_toArray, List.set_cons_zero, List.set_cons_succ]
  refine wpAnyH_done (by kernel_rfl) ?_ _
  try simp only [Act.put, List.setIfInBounds_toArray, List.set_cons_zero, List.set_cons_succ]
  go_wp2
  have TT := Told.call B1.out b4 h9 (fun g hg ha => v9 g (Nat.lt_of_lt_of_le hg b3.size) ha)
  exact bodyPost_ret (v := .agg C9) (results_st rfl _ (w.heap.size + 1) (by first | rfl | simp) TT.st _ TT.at_) rfl TT.post
set_option maxRecDepth 100000 in
set_option maxHeartbeats 1000000 in
theorem step_4 {w : World} {C : Array Value} {s : St} (h : IsSt w (.agg C) s) (hs : Small s) (he : s.en = false) (a : Option Addr) (n c : Nat) (ra rb rc : Nat) (imm : Int) (ha : ra < 16) (hb : rb < 16) (hc : rc < 16) (hi : 8 ≤ (4 : Int) ∧ (4 : Int) ≤ 10 → -32768 ≤ imm ∧ imm ≤ 65535) (hj : (4 : Int) = 10 → 0 ≤ imm)
    (hF : ∀ W, Below w.heap.size w W → Calls Tryd.prog 24 #[.slice a n c, .int .i64 s.at_] W fun e w' => e = .returned (.tuple #[.agg #[.int .i64 4, .int .i64 ra, .int .i64 rb, .int .i64 rc, .int .i64 imm], .bool true]) ∧ Below W.heap.size W w') :
    Calls Tryd.prog 13 #[.slice a n c, .agg C] w (StPost w C (opZ 4 ra rb rc imm s)) := by
  have DO : Hid (∀ W, Calls Tryd.prog 36 #[.agg #[.int .i64 4, .int .i64 ra, .int .i64 rb, .int .i64 rc, .int .i64 imm], .int .u32 (s.r rb), .int .u32 (s.r rc)] W fun e w' => e = .returned (.int .u32 (doZ 4 imm (s.r rb).toNat (s.r rc).toNat)) ∧ Below W.heap.size W w') := fun W => by
    have h1 := hs.1.2 rb
    have h2 := hs.1.2 rc
    have h := do_any 4 ra rb rc imm (s.r rb).toNat (s.r rc).toNat W (by omega) (by omega) (by omega) (by omega) hi hj
    rwa [Int.toNat_of_nonneg h1.1, Int.toNat_of_nonneg h2.1] at h
  have B0 : Hid (Boxed w ((w.alloc (.cells C 32)).alloc (.cells noSt 32)) w.heap.size (w.heap.size + 1) C C s) := Boxed.new h _ _
  clear h
  go_enter Tryd.func13, Tryd.ntmps13
  go_upto_region 1 with fail
  rw [noSt_def]
  generalize (w.alloc (.cells C 32)).alloc (.cells noSt 32) = w0 at B0 ⊢
  have HF : Hid (∀ W, Below w0.heap.size w0 W → Calls Tryd.prog 24 #[.slice a n c, .int .i64 s.at_] W fun e w' => e = .returned (.tuple #[.agg #[.int .i64 4, .int .i64 ra, .int .i64 rb, .int .i64 rc, .int .i64 imm], .bool true]) ∧ Below W.heap.size W w') := fun W hW => hF W (bnext B0.out.bel hW)
  clear hF
  obtain ⟨x0, -, -, x22, -, -⟩ := cell_st B0.out
  rw [he] at x22
  go_upto_region 4 with (go_at_call 24; refine (HF.out _ (Below.refl _ _)).mono ?_; rintro e w1 ⟨rfl, hb1⟩; have HB1 : Hid (Below w0.heap.size w0 w1) := hb1)
  have B1 : Hid (Boxed w (w1.alloc (.cells #[.int .i64 4, .int .i64 ra, .int .i64 rb, .int .i64 rc, .int .i64 imm] 40)) w.heap.size (w.heap.size + 1) C C s) := (B0.out.later HB1.out).later ((Below.refl _ _).alloc (Nat.le_refl _) _)
  have I1 : Hid (InsAt (w1.alloc (.cells #[.int .i64 4, .int .i64 ra, .int .i64 rb, .int .i64 rc, .int .i64 imm] 40)) w1.heap.size 4 ra rb rc imm) := InsAt.new _ _ _ _ _ _ _
  have L1 : Hid (w.heap.size + 1 < w1.heap.size) := by have h1 := B0.out.hb; have h2 := HB1.out.size; have h3 := B0.out.hb.2.2.2.2; show _ < _; omega
  clear x0 x22 hb1 HB1 HF B0
  generalize w1.alloc (.cells #[.int .i64 4, .int .i64 ra, .int .i64 rb, .int .i64 rc, .int .i64 imm] 40) = w2 at B1 I1 ⊢
  obtain ⟨y0, y1, y2, y3, y4⟩ := id I1.out
  have xb := (cell_st B1.out).2.1 rb hb
  have xb' : w2.cell? ⟨w.heap.size, rb + 1, none⟩ = some (.int .u32 (s.r rb)) := by rw [Nat.add_comm]; exact xb
  have xc := (cell_st B1.out).2.1 rc hc
  have xc' : w2.cell? ⟨w.heap.size, rc + 1, none⟩ = some (.int .u32 (s.r rc)) := by rw [Nat.add_comm]; exact xc
  have hb' : (rb : Int) < 16 := by omega
  have hc' : (rc : Int) < 16 := by omega
  obtain ⟨x, ex⟩ : ∃ x, doZ 4 imm (s.r rb).toNat (s.r rc).toNat = x := ⟨_, rfl⟩
  rw [ex] at DO
  have WR : Hid (∀ W, Below w2.heap.size w2 W → Calls Tryd.prog 35 #[.agg C, .agg #[.int .i64 4, .int .i64 ra, .int .i64 rb, .int .i64 rc, .int .i64 imm], .int .u32 x] W (StPost W C (opZ 4 ra rb rc imm s))) := fun W hW => write_op (B1.out.later hW).st hs 4 ra rb rc imm x ha (by omega) (fun _ => ex.symm)
  clear ex hi hj
  go_upto_region 32 with fail
  refine wp_region_held_drew (S := fun w' => (At w' w.heap.size C ∧ w'.cell? ⟨w.heap.size, 1 + rb, none⟩ = some (.int .u32 (s.r rb)) ∧ w'.cell? ⟨w.heap.size, 1 + rc, none⟩ = some (.int .u32 (s.r rc))) ∧ InsAt w' w1.heap.size 4 ra rb rc imm) (by kernel_rfl) ?_ (fun hHeld => ?_)
  · exact ⟨⟨B1.out.at_, xb, xc⟩, I1.out⟩
  refine wpAnyH_take (i := 0) (oi := { dst := some 77, op := Op.load 32 (.tmp 3), type := _, pos := _, after := _, guard := none }) (v := .agg C) rfl (by kernel_rfl) (by kernel_rfl) (by kernel_rfl) (fun _ _ _ h => h) (yields_st (by rfl) (.tmp 3) rfl w.heap.size rfl B1.out.st (fun w hw => hw.1.1)) (by assumption) ?_
  try simp only [Act.put, List.setIfInBounds_toArray, List.set_cons_zero, List.set_cons_succ]
  refine wpAnyH_take (i := 1) (v := .agg #[.int .i64 4, .int .i64 ra, .int .i64 rb, .int .i64 rc, .int .i64 imm]) rfl (by kernel_rfl) (by kernel_rfl) (by kernel_rfl) (fun _ _ _ h => h) (Or.inl ⟨by rfl, ?_⟩) (by assumption) ?_
  · intro w hSw; (try dsimp only at hSw); obtain ⟨-, f0, f1, f2, f3, f4⟩ := hSw; first | (go_simp; done) | (go_simp; with_reducible rfl)
  try simp only [Act.put, List.setIfInBounds_toArray, List.set_cons_zero, List.set_cons_succ]
  refine wpAnyH_take (i := 2) (v := .agg #[.int .i64 4, .int .i64 ra, .int .i64 rb, .int .i64 rc, .int .i64 imm]) rfl (by kernel_rfl) (by kernel_rfl) (by kernel_rfl) (fun _ _ _ h => h) (Or.inl ⟨by rfl, ?_⟩) (by assumption) ?_
  · intro w hSw; (try dsimp only at hSw); obtain ⟨-, f0, f1, f2, f3, f4⟩ := hSw; first | (go_simp; done) | (go_simp; with_reducible rfl)
  try simp only [Act.put, List.setIfInBounds_toArray, List.set_cons_zero, List.set_cons_succ]
  refine wpAnyH_take (i := 3) (v := ?_) rfl (by kernel_rfl) (by kernel_rfl) (by kernel_rfl) (fun _ _ _ h => h) (Or.inl ⟨by rfl, ?_⟩) (by assumption) ?_
  rotate_left
  · intro w hSw; (try dsimp only at hSw); first | (go_simp; done) | (go_simp; with_reducible rfl)
  try simp only [Act.put, List.setIfInBounds_toArray, List.set_cons_zero, List.set_cons_succ]
  refine wpAnyH_take (i := 4) (v := .int .i64 rb) rfl (by kernel_rfl) (by kernel_rfl) (by kernel_rfl) (fun _ _ _ h => h) (Or.inl ⟨by rfl, ?_⟩) (by assumption) ?_
  · intro w hSw; (try dsimp only at hSw); obtain ⟨-, f0, f1, f2, f3, f4⟩ := hSw; first | (go_simp; done) | (go_simp; with_reducible rfl)
  try simp only [Act.put, List.setIfInBounds_toArray, List.set_cons_zero, List.set_cons_succ]
  refine wpAnyH_take (i := 5) (v := ?_) rfl (by kernel_rfl) (by kernel_rfl) (by kernel_rfl) (fun _ _ _ h => h) (Or.inl ⟨by rfl, ?_⟩) (by assumption) ?_
  rotate_left
  · intro w hSw; (try dsimp only at hSw); first | (go_simp; done) | (go_simp; with_reducible rfl)
  try simp only [Act.put, List.setIfInBounds_toArray, List.set_cons_zero, List.set_cons_succ]
  refine wpAnyH_take (i := 6) (v := ?_) rfl (by kernel_rfl) (by kernel_rfl) (by kernel_rfl) (fun _ _ _ h => h) (Or.inl ⟨by rfl, ?_⟩) (by assumption) ?_
  rotate_left
  · intro w hSw; (try dsimp only at hSw); first | (go_simp; done) | (go_simp; with_reducible rfl)
  try simp only [Act.put, List.setIfInBounds_toArray, List.set_cons_zero, List.set_cons_succ]
  refine wpAnyH_take (i := 7) (v := .int .u32 (s.r rb)) rfl (by kernel_rfl) (by kernel_rfl) (by kernel_rfl) (fun _ _ _ h => h) (Or.inl ⟨by rfl, ?_⟩) (by assumption) ?_
  · intro w hSw; (try dsimp only at hSw); obtain ⟨⟨-, fb, fc⟩, -⟩ := hSw; have fb' := fb; have fc' := fc; rw [Nat.add_comm] at fb' fc'; first | (go_simp; done) | (go_simp; with_reducible rfl)
  try simp only [Act.put, List.setIfInBounds_toArray, List.set_cons_zero, List.set_cons_succ]
  refine wpAnyH_take (i := 8) (v := ?_) rfl (by kernel_rfl) (by kernel_rfl) (by kernel_rfl) (fun _ _ _ h => h) (Or.inl ⟨by rfl, ?_⟩) (by assumption) ?_
  rotate_left
  · intro w hSw; (try dsimp only at hSw); first | (go_simp; done) | (go_simp; with_reducible rfl)
  try simp only [Act.put, List.setIfInBounds_toArray, List.set_cons_zero, List.set_cons_succ]
  refine wpAnyH_take (i := 9) (v := .int .i64 rc) rfl (by kernel_rfl) (by kernel_rfl) (by kernel_rfl) (fun _ _ _ h => h) (Or.inl ⟨by rfl, ?_⟩) (by assumption) ?_
  · intro w hSw; (try dsimp only at hSw); obtain ⟨-, f0, f1, f2, f3, f4⟩ := hSw; first | (go_simp; done) | (go_simp; with_reducible rfl)
  try simp only [Act.put, List.setIfInBounds_toArray, List.set_cons_zero, List.set_cons_succ]
  refine wpAnyH_take (i := 10) (v := ?_) rfl (by kernel_rfl) (by kernel_rfl) (by kernel_rfl) (fun _ _ _ h => h) (Or.inl ⟨by rfl, ?_⟩) (by assumption) ?_
  rotate_left
  · intro w hSw; (try dsimp only at hSw); first | (go_simp; done) | (go_simp; with_reducible rfl)
  try simp only [Act.put, List.setIfInBounds_toArray, List.set_cons_zero, List.set_cons_succ]
  refine wpAnyH_take (i := 11) (v := ?_) rfl (by kernel_rfl) (by kernel_rfl) (by kernel_rfl) (fun _ _ _ h => h) (Or.inl ⟨by rfl, ?_⟩) (by assumption) ?_
  rotate_left
  · intro w hSw; (try dsimp only at hSw); first | (go_simp; done) | (go_simp; with_reducible rfl)
  try simp only [Act.put, List.setIfInBounds_toArray, List.set_cons_zero, List.set_cons_succ]
  refine wpAnyH_take (i := 12) (v := .int .u32 (s.r rc)) rfl (by kernel_rfl) (by kernel_rfl) (by kernel_rfl) (fun _ _ _ h => h) (Or.inl ⟨by rfl, ?_⟩) (by assumption) ?_
  · intro w hSw; (try dsimp only at hSw); obtain ⟨⟨-, fb, fc⟩, -⟩ := hSw; have fb' := fb; have fc' := fc; rw [Nat.add_comm] at fb' fc'; first | (go_simp; done) | (go_simp; with_reducible rfl)
  try simp only [Act.put, List.setIfInBounds_toArray, List.set_cons_zero, List.set_cons_succ]
  refine wpAnyH_ready (rs := [13]) (by kernel_rfl) (by simp) (AllReadyH.cons (o := { dst := some 90, op := Op.call { callee := .value (.func 36), args := #[.tmp 79, .tmp 84, .tmp 89], argTypes := #[40, 26, 26] }, type := _, pos := _, after := _, guard := none }) rfl (fun K hK => ?_) AllReadyH.nil)
  go_simp
  refine (DO.out _).mono ?_
  rintro e w3 ⟨rfl, hb3⟩
  have b3 : Below w2.heap.size w2 w3 := bnext (Below.refl _ _).drew hb3
  refine hK.out _ _ ?_ (fun hHeld => ?_)
  · exact ⟨⟨B1.out.at_.later b3, cell_later' xb b3, cell_later' xc b3⟩, I1.out.later b3⟩
  clear hK K
  try simp only [Act.put, List.setIfInBounds_toArray, List.set_cons_zero, List.set_cons_succ]
  refine wpAnyH_ready (rs := [14]) (by kernel_rfl) (by simp) (AllReadyH.cons (o := { dst := some 91, op := Op.call { callee := .value (.func 35), args := #[.tmp 77, .tmp 78, .tmp 90], argTypes := #[32, 40, 26] }, type := _, pos := _, after := _, guard := none }) rfl (fun K hK => ?_) AllReadyH.nil)
  go_simp
  refine (WR.out _ b3).mono ?_
  rintro e w9 ⟨C9, rfl, h9, v9, b9⟩
  have b4 : Below w2.heap.size w2 w9 := bnext b3 b9
  refine hK.out _ _ ?_ (fun hHeld => ?_)
  · exact ⟨⟨B1.out.at_.later b4, cell_later' xb b4, cell_later' xc b4⟩, I1.out.later b4⟩
  clear hK K
  try simp only [Act.put, List.setIfInBounds_toArray, List.set_cons_zero, List.set_cons_succ]
  refine wpAnyH_ready (rs := [15]) (by kernel_rfl) (by simp) (AllReadyH.cons (o := { dst := none, op := Op.store 32 (.tmp 4) (.tmp 91), type := _, pos := _, after := _, guard := none }) rfl (fun K hK => ?_) AllReadyH.nil)
  rw [if_pos (by rfl)]
  refine wp_store_mid 32 (.tmp 4) (.tmp 91) rfl (w.heap.size + 1) 0 C9 rfl rfl (by rw [(st_shape h9).1]; exact there_later B1.out.room b4) (st_info h9).1 (st_shape h9).2 ?_
  have n1 : w.heap.size ≠ w.heap.size + 1 := by omega
  have n2 : w1.heap.size ≠ w.heap.size + 1 := by have := L1.out; omega
  refine hK.out _ _ ?_ (fun hHeld => ?_)
  · exact ⟨⟨fun j u hu => (cell_setCells_far _ _ _ _ _ n1).trans (B1.out.at_.later b4 j u hu), (cell_setCells_far _ _ _ _ _ n1).trans (cell_later' xb b4), (cell_setCells_far _ _ _ _ _ n1).trans (cell_later' xc b4)⟩, (cell_setCells_far _ _ _ _ _ n2).trans (cell_later' y0 b4), (cell_setCells_far _ _ _ _ _ n2).trans (cell_later' y1 b4), (cell_setCells_far _ _ _ _ _ n2).trans (cell_later' y2 b4), (cell_setCells_far _ _ _ _ _ n2).trans (cell_later' y3 b4), (cell_setCells_far _ _ _ _ _ n2).trans (cell_later' y4 b4)⟩
  clear hK K
  try simp only [Act.put, List.setIfInBounds_toArray, List.set_cons_zero, List.set_cons_succ]
  refine wpAnyH_done (by kernel_rfl) ?_ _
  try simp only [Act.put, List.setIfInBounds_toArray, List.set_cons_zero, List.set_cons_succ]
  go_wp2
  have TT := Told.call B1.out b4 h9 (fun g hg ha => v9 g (Nat.lt_of_lt_of_le hg b3.size) ha)
  exact bodyPost_ret (v := .agg C9) (results_st rfl _ (w.heap.size + 1) (by first | rfl | simp) TT.st _ TT.at_) rfl TT.post
set_option maxRecDepth 100000 in
set_option maxHeartbeats 1000000 in
theorem step_5 {w : World} {C : Array Value} {s : St} (h : IsSt w (.agg C) s) (hs : Small s) (he : s.en = false) (a : Option Addr) (n c : Nat) (ra rb rc : Nat) (imm : Int) (ha : ra < 16) (hb : rb < 16) (hc : rc < 16) (hi : 8 ≤ (5 : Int) ∧ (5 : Int) ≤ 10 → -32768 ≤ imm ∧ imm ≤ 65535) (hj : (5 : Int) = 10 → 0 ≤ imm)
    (hF : ∀ W, Below w.heap.size w W → Calls Tryd.prog 24 #[.slice a n c, .int .i64 s.at_] W fun e w' => e = .returned (.tuple #[.agg #[.int .i64 5, .int .i64 ra, .int .i64 rb, .int .i64 rc, .int .i64 imm], .bool true]) ∧ Below W.heap.size W w') :
    Calls Tryd.prog 13 #[.slice a n c, .agg C] w (StPost w C (opZ 5 ra rb rc imm s)) := by
  have DO : Hid (∀ W, Calls Tryd.prog 36 #[.agg #[.int .i64 5, .int .i64 ra, .int .i64 rb, .int .i64 rc, .int .i64 imm], .int .u32 (s.r rb), .int .u32 (s.r rc)] W fun e w' => e = .returned (.int .u32 (doZ 5 imm (s.r rb).toNat (s.r rc).toNat)) ∧ Below W.heap.size W w') := fun W => by
    have h1 := hs.1.2 rb
    have h2 := hs.1.2 rc
    have h := do_any 5 ra rb rc imm (s.r rb).toNat (s.r rc).toNat W (by omega) (by omega) (by omega) (by omega) hi hj
    rwa [Int.toNat_of_nonneg h1.1, Int.toNat_of_nonneg h2.1] at h
  have B0 : Hid (Boxed w ((w.alloc (.cells C 32)).alloc (.cells noSt 32)) w.heap.size (w.heap.size + 1) C C s) := Boxed.new h _ _
  clear h
  go_enter Tryd.func13, Tryd.ntmps13
  go_upto_region 1 with fail
  rw [noSt_def]
  generalize (w.alloc (.cells C 32)).alloc (.cells noSt 32) = w0 at B0 ⊢
  have HF : Hid (∀ W, Below w0.heap.size w0 W → Calls Tryd.prog 24 #[.slice a n c, .int .i64 s.at_] W fun e w' => e = .returned (.tuple #[.agg #[.int .i64 5, .int .i64 ra, .int .i64 rb, .int .i64 rc, .int .i64 imm], .bool true]) ∧ Below W.heap.size W w') := fun W hW => hF W (bnext B0.out.bel hW)
  clear hF
  obtain ⟨x0, -, -, x22, -, -⟩ := cell_st B0.out
  rw [he] at x22
  go_upto_region 4 with (go_at_call 24; refine (HF.out _ (Below.refl _ _)).mono ?_; rintro e w1 ⟨rfl, hb1⟩; have HB1 : Hid (Below w0.heap.size w0 w1) := hb1)
  have B1 : Hid (Boxed w (w1.alloc (.cells #[.int .i64 5, .int .i64 ra, .int .i64 rb, .int .i64 rc, .int .i64 imm] 40)) w.heap.size (w.heap.size + 1) C C s) := (B0.out.later HB1.out).later ((Below.refl _ _).alloc (Nat.le_refl _) _)
  have I1 : Hid (InsAt (w1.alloc (.cells #[.int .i64 5, .int .i64 ra, .int .i64 rb, .int .i64 rc, .int .i64 imm] 40)) w1.heap.size 5 ra rb rc imm) := InsAt.new _ _ _ _ _ _ _
  have L1 : Hid (w.heap.size + 1 < w1.heap.size) := by have h1 := B0.out.hb; have h2 := HB1.out.size; have h3 := B0.out.hb.2.2.2.2; show _ < _; omega
  clear x0 x22 hb1 HB1 HF B0
  generalize w1.alloc (.cells #[.int .i64 5, .int .i64 ra, .int .i64 rb, .int .i64 rc, .int .i64 imm] 40) = w2 at B1 I1 ⊢
  obtain ⟨y0, y1, y2, y3, y4⟩ := id I1.out
  have xb := (cell_st B1.out).2.1 rb hb
  have xb' : w2.cell? ⟨w.heap.size, rb + 1, none⟩ = some (.int .u32 (s.r rb)) := by rw [Nat.add_comm]; exact xb
  have xc := (cell_st B1.out).2.1 rc hc
  have xc' : w2.cell? ⟨w.heap.size, rc + 1, none⟩ = some (.int .u32 (s.r rc)) := by rw [Nat.add_comm]; exact xc
  have hb' : (rb : Int) < 16 := by omega
  have hc' : (rc : Int) < 16 := by omega
  obtain ⟨x, ex⟩ : ∃ x, doZ 5 imm (s.r rb).toNat (s.r rc).toNat = x := ⟨_, rfl⟩
  rw [ex] at DO
  have WR : Hid (∀ W, Below w2.heap.size w2 W → Calls Tryd.prog 35 #[.agg C, .agg #[.int .i64 5, .int .i64 ra, .int .i64 rb, .int .i64 rc, .int .i64 imm], .int .u32 x] W (StPost W C (opZ 5 ra rb rc imm s))) := fun W hW => write_op (B1.out.later hW).st hs 5 ra rb rc imm x ha (by omega) (fun _ => ex.symm)
  clear ex hi hj
  go_upto_region 32 with fail
  refine wp_region_held_drew (S := fun w' => (At w' w.heap.size C ∧ w'.cell? ⟨w.heap.size, 1 + rb, none⟩ = some (.int .u32 (s.r rb)) ∧ w'.cell? ⟨w.heap.size, 1 + rc, none⟩ = some (.int .u32 (s.r rc))) ∧ InsAt w' w1.heap.size 5 ra rb rc imm) (by kernel_rfl) ?_ (fun hHeld => ?_)
  · exact ⟨⟨B1.out.at_, xb, xc⟩, I1.out⟩
  refine wpAnyH_take (i := 0) (oi := { dst := some 77, op := Op.load 32 (.tmp 3), type := _, pos := _, after := _, guard := none }) (v := .agg C) rfl (by kernel_rfl) (by kernel_rfl) (by kernel_rfl) (fun _ _ _ h => h) (yields_st (by rfl) (.tmp 3) rfl w.heap.size rfl B1.out.st (fun w hw => hw.1.1)) (by assumption) ?_
  try simp only [Act.put, List.setIfInBounds_toArray, List.set_cons_zero, List.set_cons_succ]
  refine wpAnyH_take (i := 1) (v := .agg #[.int .i64 5, .int .i64 ra, .int .i64 rb, .int .i64 rc, .int .i64 imm]) rfl (by kernel_rfl) (by kernel_rfl) (by kernel_rfl) (fun _ _ _ h => h) (Or.inl ⟨by rfl, ?_⟩) (by assumption) ?_
  · intro w hSw; (try dsimp only at hSw); obtain ⟨-, f0, f1, f2, f3, f4⟩ := hSw; first | (go_simp; done) | (go_simp; with_reducible rfl)
  try simp only [Act.put, List.setIfInBounds_toArray, List.set_cons_zero, List.set_cons_succ]
  refine wpAnyH_take (i := 2) (v := .agg #[.int .i64 5, .int .i64 ra, .int .i64 rb, .int .i64 rc, .int .i64 imm]) rfl (by kernel_rfl) (by kernel_rfl) (by kernel_rfl) (fun _ _ _ h => h) (Or.inl ⟨by rfl, ?_⟩) (by assumption) ?_
  · intro w hSw; (try dsimp only at hSw); obtain ⟨-, f0, f1, f2, f3, f4⟩ := hSw; first | (go_simp; done) | (go_simp; with_reducible rfl)
  try simp only [Act.put, List.setIfInBounds_toArray, List.set_cons_zero, List.set_cons_succ]
  refine wpAnyH_take (i := 3) (v := ?_) rfl (by kernel_rfl) (by kernel_rfl) (by kernel_rfl) (fun _ _ _ h => h) (Or.inl ⟨by rfl, ?_⟩) (by assumption) ?_
  rotate_left
  · intro w hSw; (try dsimp only at hSw); first | (go_simp; done) | (go_simp; with_reducible rfl)
  try simp only [Act.put, List.setIfInBounds_toArray, List.set_cons_zero, List.set_cons_succ]
  refine wpAnyH_take (i := 4) (v := .int .i64 rb) rfl (by kernel_rfl) (by kernel_rfl) (by kernel_rfl) (fun _ _ _ h => h) (Or.inl ⟨by rfl, ?_⟩) (by assumption) ?_
  · intro w hSw; (try dsimp only at hSw); obtain ⟨-, f0, f1, f2, f3, f4⟩ := hSw; first | (go_simp; done) | (go_simp; with_reducible rfl)
  try simp only [Act.put, List.setIfInBounds_toArray, List.set_cons_zero, List.set_cons_succ]
  refine wpAnyH_take (i := 5) (v := ?_) rfl (by kernel_rfl) (by kernel_rfl) (by kernel_rfl) (fun _ _ _ h => h) (Or.inl ⟨by rfl, ?_⟩) (by assumption) ?_
  rotate_left
  · intro w hSw; (try dsimp only at hSw); first | (go_simp; done) | (go_simp; with_reducible rfl)
  try simp only [Act.put, List.setIfInBounds_toArray, List.set_cons_zero, List.set_cons_succ]
  refine wpAnyH_take (i := 6) (v := ?_) rfl (by kernel_rfl) (by kernel_rfl) (by kernel_rfl) (fun _ _ _ h => h) (Or.inl ⟨by rfl, ?_⟩) (by assumption) ?_
  rotate_left
  · intro w hSw; (try dsimp only at hSw); first | (go_simp; done) | (go_simp; with_reducible rfl)
  try simp only [Act.put, List.setIfInBounds_toArray, List.set_cons_zero, List.set_cons_succ]
  refine wpAnyH_take (i := 7) (v := .int .u32 (s.r rb)) rfl (by kernel_rfl) (by kernel_rfl) (by kernel_rfl) (fun _ _ _ h => h) (Or.inl ⟨by rfl, ?_⟩) (by assumption) ?_
  · intro w hSw; (try dsimp only at hSw); obtain ⟨⟨-, fb, fc⟩, -⟩ := hSw; have fb' := fb; have fc' := fc; rw [Nat.add_comm] at fb' fc'; first | (go_simp; done) | (go_simp; with_reducible rfl)
  try simp only [Act.put, List.setIfInBounds_toArray, List.set_cons_zero, List.set_cons_succ]
  refine wpAnyH_take (i := 8) (v := ?_) rfl (by kernel_rfl) (by kernel_rfl) (by kernel_rfl) (fun _ _ _ h => h) (Or.inl ⟨by rfl, ?_⟩) (by assumption) ?_
  rotate_left
  · intro w hSw; (try dsimp only at hSw); first | (go_simp; done) | (go_simp; with_reducible rfl)
  try simp only [Act.put, List.setIfInBounds_toArray, List.set_cons_zero, List.set_cons_succ]
  refine wpAnyH_take (i := 9) (v := .int .i64 rc) rfl (by kernel_rfl) (by kernel_rfl) (by kernel_rfl) (fun _ _ _ h => h) (Or.inl ⟨by rfl, ?_⟩) (by assumption) ?_
  · intro w hSw; (try dsimp only at hSw); obtain ⟨-, f0, f1, f2, f3, f4⟩ := hSw; first | (go_simp; done) | (go_simp; with_reducible rfl)
  try simp only [Act.put, List.setIfInBounds_toArray, List.set_cons_zero, List.set_cons_succ]
  refine wpAnyH_take (i := 10) (v := ?_) rfl (by kernel_rfl) (by kernel_rfl) (by kernel_rfl) (fun _ _ _ h => h) (Or.inl ⟨by rfl, ?_⟩) (by assumption) ?_
  rotate_left
  · intro w hSw; (try dsimp only at hSw); first | (go_simp; done) | (go_simp; with_reducible rfl)
  try simp only [Act.put, List.setIfInBounds_toArray, List.set_cons_zero, List.set_cons_succ]
  refine wpAnyH_take (i := 11) (v := ?_) rfl (by kernel_rfl) (by kernel_rfl) (by kernel_rfl) (fun _ _ _ h => h) (Or.inl ⟨by rfl, ?_⟩) (by assumption) ?_
  rotate_left
  · intro w hSw; (try dsimp only at hSw); first | (go_simp; done) | (go_simp; with_reducible rfl)
  try simp only [Act.put, List.setIfInBounds_toArray, List.set_cons_zero, List.set_cons_succ]
  refine wpAnyH_take (i := 12) (v := .int .u32 (s.r rc)) rfl (by kernel_rfl) (by kernel_rfl) (by kernel_rfl) (fun _ _ _ h => h) (Or.inl ⟨by rfl, ?_⟩) (by assumption) ?_
  · intro w hSw; (try dsimp only at hSw); obtain ⟨⟨-, fb, fc⟩, -⟩ := hSw; have fb' := fb; have fc' := fc; rw [Nat.add_comm] at fb' fc'; first | (go_simp; done) | (go_simp; with_reducible rfl)
  try simp only [Act.put, List.setIfInBounds_toArray, List.set_cons_zero, List.set_cons_succ]
  refine wpAnyH_ready (rs := [13]) (by kernel_rfl) (by simp) (AllReadyH.cons (o := { dst := some 90, op := Op.call { callee := .value (.func 36), args := #[.tmp 79, .tmp 84, .tmp 89], argTypes := #[40, 26, 26] }, type := _, pos := _, after := _, guard := none }) rfl (fun K hK => ?_) AllReadyH.nil)
  go_simp
  refine (DO.out _).mono ?_
  rintro e w3 ⟨rfl, hb3⟩
  have b3 : Below w2.heap.size w2 w3 := bnext (Below.refl _ _).drew hb3
  refine hK.out _ _ ?_ (fun hHeld => ?_)
  · exact ⟨⟨B1.out.at_.later b3, cell_later' xb b3, cell_later' xc b3⟩, I1.out.later b3⟩
  clear hK K
  try simp only [Act.put, List.setIfInBounds_toArray, List.set_cons_zero, List.set_cons_succ]
  refine wpAnyH_ready (rs := [14]) (by kernel_rfl) (by simp) (AllReadyH.cons (o := { dst := some 91, op := Op.call { callee := .value (.func 35), args := #[.tmp 77, .tmp 78, .tmp 90], argTypes := #[32, 40, 26] }, type := _, pos := _, after := _, guard := none }) rfl (fun K hK => ?_) AllReadyH.nil)
  go_simp
  refine (WR.out _ b3).mono ?_
  rintro e w9 ⟨C9, rfl, h9, v9, b9⟩
  have b4 : Below w2.heap.size w2 w9 := bnext b3 b9
  refine hK.out _ _ ?_ (fun hHeld => ?_)
  · exact ⟨⟨B1.out.at_.later b4, cell_later' xb b4, cell_later' xc b4⟩, I1.out.later b4⟩
  clear hK K
  try simp only [Act.put, List.setIfInBounds_toArray, List.set_cons_zero, List.set_cons_succ]
  refine wpAnyH_ready (rs := [15]) (by kernel_rfl) (by simp) (AllReadyH.cons (o := { dst := none, op := Op.store 32 (.tmp 4) (.tmp 91), type := _, pos := _, after := _, guard := none }) rfl (fun K hK => ?_) AllReadyH.nil)
  rw [if_pos (by rfl)]
  refine wp_store_mid 32 (.tmp 4) (.tmp 91) rfl (w.heap.size + 1) 0 C9 rfl rfl (by rw [(st_shape h9).1]; exact there_later B1.out.room b4) (st_info h9).1 (st_shape h9).2 ?_
  have n1 : w.heap.size ≠ w.heap.size + 1 := by omega
  have n2 : w1.heap.size ≠ w.heap.size + 1 := by have := L1.out; omega
  refine hK.out _ _ ?_ (fun hHeld => ?_)
  · exact ⟨⟨fun j u hu => (cell_setCells_far _ _ _ _ _ n1).trans (B1.out.at_.later b4 j u hu), (cell_setCells_far _ _ _ _ _ n1).trans (cell_later' xb b4), (cell_setCells_far _ _ _ _ _ n1).trans (cell_later' xc b4)⟩, (cell_setCells_far _ _ _ _ _ n2).trans (cell_later' y0 b4), (cell_setCells_far _ _ _ _ _ n2).trans (cell_later' y1 b4), (cell_setCells_far _ _ _ _ _ n2).trans (cell_later' y2 b4), (cell_setCells_far _ _ _ _ _ n2).trans (cell_later' y3 b4), (cell_setCells_far _ _ _ _ _ n2).trans (cell_later' y4 b4)⟩
  clear hK K
  try simp only [Act.put, List.setIfInBounds_toArray, List.set_cons_zero, List.set_cons_succ]
  refine wpAnyH_done (by kernel_rfl) ?_ _
  try simp only [Act.put, List.setIfInBounds_toArray, List.set_cons_zero, List.set_cons_succ]
  go_wp2
  have TT := Told.call B1.out b4 h9 (fun g hg ha => v9 g (Nat.lt_of_lt_of_le hg b3.size) ha)
  exact bodyPost_ret (v := .agg C9) (results_st rfl _ (w.heap.size + 1) (by first | rfl | simp) TT.st _ TT.at_) rfl TT.post
set_option maxRecDepth 100000 in
set_option maxHeartbeats 1000000 in
theorem step_6 {w : World} {C : Array Value} {s : St} (h : IsSt w (.agg C) s) (hs : Small s) (he : s.en = false) (a : Option Addr) (n c : Nat) (ra rb rc : Nat) (imm : Int) (ha : ra < 16) (hb : rb < 16) (hc : rc < 16) (hi : 8 ≤ (6 : Int) ∧ (6 : Int) ≤ 10 → -32768 ≤ imm ∧ imm ≤ 65535) (hj : (6 : Int) = 10 → 0 ≤ imm)
    (hF : ∀ W, Below w.heap.size w W → Calls Tryd.prog 24 #[.slice a n c, .int .i64 s.at_] W fun e w' => e = .returned (.tuple #[.agg #[.int .i64 6, .int .i64 ra, .int .i64 rb, .int .i64 rc, .int .i64 imm], .bool true]) ∧ Below W.heap.size W w') :
    Calls Tryd.prog 13 #[.slice a n c, .agg C] w (StPost w C (opZ 6 ra rb rc imm s)) := by
  have DO : Hid (∀ W, Calls Tryd.prog 36 #[.agg #[.int .i64 6, .int .i64 ra, .int .i64 rb, .int .i64 rc, .int .i64 imm], .int .u32 (s.r rb), .int .u32 (s.r rc)] W fun e w' => e = .returned (.int .u32 (doZ 6 imm (s.r rb).toNat (s.r rc).toNat)) ∧ Below W.heap.size W w') := fun W => by
    have h1 := hs.1.2 rb
    have h2 := hs.1.2 rc
    have h := do_any 6 ra rb rc imm (s.r rb).toNat (s.r rc).toNat W (by omega) (by omega) (by omega) (by omega) hi hj
    rwa [Int.toNat_of_nonneg h1.1, Int.toNat_of_nonneg h2.1] at h
  have B0 : Hid (Boxed w ((w.alloc (.cells C 32)).alloc (.cells noSt 32)) w.heap.size (w.heap.size + 1) C C s) := Boxed.new h _ _
  clear h
  go_enter Tryd.func13, Tryd.ntmps13
  go_upto_region 1 with fail
  rw [noSt_def]
  generalize (w.alloc (.cells C 32)).alloc (.cells noSt 32) = w0 at B0 ⊢
  have HF : Hid (∀ W, Below w0.heap.size w0 W → Calls Tryd.prog 24 #[.slice a n c, .int .i64 s.at_] W fun e w' => e = .returned (.tuple #[.agg #[.int .i64 6, .int .i64 ra, .int .i64 rb, .int .i64 rc, .int .i64 imm], .bool true]) ∧ Below W.heap.size W w') := fun W hW => hF W (bnext B0.out.bel hW)
  clear hF
  obtain ⟨x0, -, -, x22, -, -⟩ := cell_st B0.out
  rw [he] at x22
  go_upto_region 4 with (go_at_call 24; refine (HF.out _ (Below.refl _ _)).mono ?_; rintro e w1 ⟨rfl, hb1⟩; have HB1 : Hid (Below w0.heap.size w0 w1) := hb1)
  have B1 : Hid (Boxed w (w1.alloc (.cells #[.int .i64 6, .int .i64 ra, .int .i64 rb, .int .i64 rc, .int .i64 imm] 40)) w.heap.size (w.heap.size + 1) C C s) := (B0.out.later HB1.out).later ((Below.refl _ _).alloc (Nat.le_refl _) _)
  have I1 : Hid (InsAt (w1.alloc (.cells #[.int .i64 6, .int .i64 ra, .int .i64 rb, .int .i64 rc, .int .i64 imm] 40)) w1.heap.size 6 ra rb rc imm) := InsAt.new _ _ _ _ _ _ _
  have L1 : Hid (w.heap.size + 1 < w1.heap.size) := by have h1 := B0.out.hb; have h2 := HB1.out.size; have h3 := B0.out.hb.2.2.2.2; show _ < _; omega
  clear x0 x22 hb1 HB1 HF B0
  generalize w1.alloc (.cells #[.int .i64 6, .int .i64 ra, .int .i64 rb, .int .i64 rc, .int .i64 imm] 40) = w2 at B1 I1 ⊢
  obtain ⟨y0, y1, y2, y3, y4⟩ := id I1.out
  have xb := (cell_st B1.out).2.1 rb hb
  have xb' : w2.cell? ⟨w.heap.size, rb + 1, none⟩ = some (.int .u32 (s.r rb)) := by rw [Nat.add_comm]; exact xb
  have xc := (cell_st B1.out).2.1 rc hc
  have xc' : w2.cell? ⟨w.heap.size, rc + 1, none⟩ = some (.int .u32 (s.r rc)) := by rw [Nat.add_comm]; exact xc
  have hb' : (rb : Int) < 16 := by omega
  have hc' : (rc : Int) < 16 := by omega
  obtain ⟨x, ex⟩ : ∃ x, doZ 6 imm (s.r rb).toNat (s.r rc).toNat = x := ⟨_, rfl⟩
  rw [ex] at DO
  have WR : Hid (∀ W, Below w2.heap.size w2 W → Calls Tryd.prog 35 #[.agg C, .agg #[.int .i64 6, .int .i64 ra, .int .i64 rb, .int .i64 rc, .int .i64 imm], .int .u32 x] W (StPost W C (opZ 6 ra rb rc imm s))) := fun W hW => write_op (B1.out.later hW).st hs 6 ra rb rc imm x ha (by omega) (fun _ => ex.symm)
  clear ex hi hj
  go_upto_region 32 with fail
  refine wp_region_held_drew (S := fun w' => (At w' w.heap.size C ∧ w'.cell? ⟨w.heap.size, 1 + rb, none⟩ = some (.int .u32 (s.r rb)) ∧ w'.cell? ⟨w.heap.size, 1 + rc, none⟩ = some (.int .u32 (s.r rc))) ∧ InsAt w' w1.heap.size 6 ra rb rc imm) (by kernel_rfl) ?_ (fun hHeld => ?_)
  · exact ⟨⟨B1.out.at_, xb, xc⟩, I1.out⟩
  refine wpAnyH_take (i := 0) (oi := { dst := some 77, op := Op.load 32 (.tmp 3), type := _, pos := _, after := _, guard := none }) (v := .agg C) rfl (by kernel_rfl) (by kernel_rfl) (by kernel_rfl) (fun _ _ _ h => h) (yields_st (by rfl) (.tmp 3) rfl w.heap.size rfl B1.out.st (fun w hw => hw.1.1)) (by assumption) ?_
  try simp only [Act.put, List.setIfInBounds_toArray, List.set_cons_zero, List.set_cons_succ]
  refine wpAnyH_take (i := 1) (v := .agg #[.int .i64 6, .int .i64 ra, .int .i64 rb, .int .i64 rc, .int .i64 imm]) rfl (by kernel_rfl) (by kernel_rfl) (by kernel_rfl) (fun _ _ _ h => h) (Or.inl ⟨by rfl, ?_⟩) (by assumption) ?_
  · intro w hSw; (try dsimp only at hSw); obtain ⟨-, f0, f1, f2, f3, f4⟩ := hSw; first | (go_simp; done) | (go_simp; with_reducible rfl)
  try simp only [Act.put, List.setIfInBounds_toArray, List.set_cons_zero, List.set_cons_succ]
  refine wpAnyH_take (i := 2) (v := .agg #[.int .i64 6, .int .i64 ra, .int .i64 rb, .int .i64 rc, .int .i64 imm]) rfl (by kernel_rfl) (by kernel_rfl) (by kernel_rfl) (fun _ _ _ h => h) (Or.inl ⟨by rfl, ?_⟩) (by assumption) ?_
  · intro w hSw; (try dsimp only at hSw); obtain ⟨-, f0, f1, f2, f3, f4⟩ := hSw; first | (go_simp; done) | (go_simp; with_reducible rfl)
  try simp only [Act.put, List.setIfInBounds_toArray, List.set_cons_zero, List.set_cons_succ]
  refine wpAnyH_take (i := 3) (v := ?_) rfl (by kernel_rfl) (by kernel_rfl) (by kernel_rfl) (fun _ _ _ h => h) (Or.inl ⟨by rfl, ?_⟩) (by assumption) ?_
  rotate_left
  · intro w hSw; (try dsimp only at hSw); first | (go_simp; done) | (go_simp; with_reducible rfl)
  try simp only [Act.put, List.setIfInBounds_toArray, List.set_cons_zero, List.set_cons_succ]
  refine wpAnyH_take (i := 4) (v := .int .i64 rb) rfl (by kernel_rfl) (by kernel_rfl) (by kernel_rfl) (fun _ _ _ h => h) (Or.inl ⟨by rfl, ?_⟩) (by assumption) ?_
  · intro w hSw; (try dsimp only at hSw); obtain ⟨-, f0, f1, f2, f3, f4⟩ := hSw; first | (go_simp; done) | (go_simp; with_reducible rfl)
  try simp only [Act.put, List.setIfInBounds_toArray, List.set_cons_zero, List.set_cons_succ]
  refine wpAnyH_take (i := 5) (v := ?_) rfl (by kernel_rfl) (by kernel_rfl) (by kernel_rfl) (fun _ _ _ h => h) (Or.inl ⟨by rfl, ?_⟩) (by assumption) ?_
  rotate_left
  · intro w hSw; (try dsimp only at hSw); first | (go_simp; done) | (go_simp; with_reducible rfl)
  try simp only [Act.put, List.setIfInBounds_toArray, List.set_cons_zero, List.set_cons_succ]
  refine wpAnyH_take (i := 6) (v := ?_) rfl (by kernel_rfl) (by kernel_rfl) (by kernel_rfl) (fun _ _ _ h => h) (Or.inl ⟨by rfl, ?_⟩) (by assumption) ?_
  rotate_left
  · intro w hSw; (try dsimp only at hSw); first | (go_simp; done) | (go_simp; with_reducible rfl)
  try simp only [Act.put, List.setIfInBounds_toArray, List.set_cons_zero, List.set_cons_succ]
  refine wpAnyH_take (i := 7) (v := .int .u32 (s.r rb)) rfl (by kernel_rfl) (by kernel_rfl) (by kernel_rfl) (fun _ _ _ h => h) (Or.inl ⟨by rfl, ?_⟩) (by assumption) ?_
  · intro w hSw; (try dsimp only at hSw); obtain ⟨⟨-, fb, fc⟩, -⟩ := hSw; have fb' := fb; have fc' := fc; rw [Nat.add_comm] at fb' fc'; first | (go_simp; done) | (go_simp; with_reducible rfl)
  try simp only [Act.put, List.setIfInBounds_toArray, List.set_cons_zero, List.set_cons_succ]
  refine wpAnyH_take (i := 8) (v := ?_) rfl (by kernel_rfl) (by kernel_rfl) (by kernel_rfl) (fun _ _ _ h => h) (Or.inl ⟨by rfl, ?_⟩) (by assumption) ?_
  rotate_left
  · intro w hSw; (try dsimp only at hSw); first | (go_simp; done) | (go_simp; with_reducible rfl)
  try simp only [Act.put, List.setIfInBounds_toArray, List.set_cons_zero, List.set_cons_succ]
  refine wpAnyH_take (i := 9) (v := .int .i64 rc) rfl (by kernel_rfl) (by kernel_rfl) (by kernel_rfl) (fun _ _ _ h => h) (Or.inl ⟨by rfl, ?_⟩) (by assumption) ?_
  · intro w hSw; (try dsimp only at hSw); obtain ⟨-, f0, f1, f2, f3, f4⟩ := hSw; first | (go_simp; done) | (go_simp; with_reducible rfl)
  try simp only [Act.put, List.setIfInBounds_toArray, List.set_cons_zero, List.set_cons_succ]
  refine wpAnyH_take (i := 10) (v := ?_) rfl (by kernel_rfl) (by kernel_rfl) (by kernel_rfl) (fun _ _ _ h => h) (Or.inl ⟨by rfl, ?_⟩) (by assumption) ?_
  rotate_left
  · intro w hSw; (try dsimp only at hSw); first | (go_simp; done) | (go_simp; with_reducible rfl)
  try simp only [Act.put, List.setIfInBounds_toArray, List.set_cons_zero, List.set_cons_succ]
  refine wpAnyH_take (i := 11) (v := ?_) rfl (by kernel_rfl) (by kernel_rfl) (by kernel_rfl) (fun _ _ _ h => h) (Or.inl ⟨by rfl, ?_⟩) (by assumption) ?_
  rotate_left
  · intro w hSw; (try dsimp only at hSw); first | (go_simp; done) | (go_simp; with_reducible rfl)
  try simp only [Act.put, List.setIfInBounds_toArray, List.set_cons_zero, List.set_cons_succ]
  refine wpAnyH_take (i := 12) (v := .int .u32 (s.r rc)) rfl (by kernel_rfl) (by kernel_rfl) (by kernel_rfl) (fun _ _ _ h => h) (Or.inl ⟨by rfl, ?_⟩) (by assumption) ?_
  · intro w hSw; (try dsimp only at hSw); obtain ⟨⟨-, fb, fc⟩, -⟩ := hSw; have fb' := fb; have fc' := fc; rw [Nat.add_comm] at fb' fc'; first | (go_simp; done) | (go_simp; with_reducible rfl)
  try simp only [Act.put, List.setIfInBounds_toArray, List.set_cons_zero, List.set_cons_succ]
  refine wpAnyH_ready (rs := [13]) (by kernel_rfl) (by simp) (AllReadyH.cons (o := { dst := some 90, op := Op.call { callee := .value (.func 36), args := #[.tmp 79, .tmp 84, .tmp 89], argTypes := #[40, 26, 26] }, type := _, pos := _, after := _, guard := none }) rfl (fun K hK => ?_) AllReadyH.nil)
  go_simp
  refine (DO.out _).mono ?_
  rintro e w3 ⟨rfl, hb3⟩
  have b3 : Below w2.heap.size w2 w3 := bnext (Below.refl _ _).drew hb3
  refine hK.out _ _ ?_ (fun hHeld => ?_)
  · exact ⟨⟨B1.out.at_.later b3, cell_later' xb b3, cell_later' xc b3⟩, I1.out.later b3⟩
  clear hK K
  try simp only [Act.put, List.setIfInBounds_toArray, List.set_cons_zero, List.set_cons_succ]
  refine wpAnyH_ready (rs := [14]) (by kernel_rfl) (by simp) (AllReadyH.cons (o := { dst := some 91, op := Op.call { callee := .value (.func 35), args := #[.tmp 77, .tmp 78, .tmp 90], argTypes := #[32, 40, 26] }, type := _, pos := _, after := _, guard := none }) rfl (fun K hK => ?_) AllReadyH.nil)
  go_simp
  refine (WR.out _ b3).mono ?_
  rintro e w9 ⟨C9, rfl, h9, v9, b9⟩
  have b4 : Below w2.heap.size w2 w9 := bnext b3 b9
  refine hK.out _ _ ?_ (fun hHeld => ?_)
  · exact ⟨⟨B1.out.at_.later b4, cell_later' xb b4, cell_later' xc b4⟩, I1.out.later b4⟩
  clear hK K
  try simp only [Act.put, List.setIfInBounds_toArray, List.set_cons_zero, List.set_cons_succ]
  refine wpAnyH_ready (rs := [15]) (by kernel_rfl) (by simp) (AllReadyH.cons (o := { dst := none, op := Op.store 32 (.tmp 4) (.tmp 91), type := _, pos := _, after := _, guard := none }) rfl (fun K hK => ?_) AllReadyH.nil)
  rw [if_pos (by rfl)]
  refine wp_store_mid 32 (.tmp 4) (.tmp 91) rfl (w.heap.size + 1) 0 C9 rfl rfl (by rw [(st_shape h9).1]; exact there_later B1.out.room b4) (st_info h9).1 (st_shape h9).2 ?_
  have n1 : w.heap.size ≠ w.heap.size + 1 := by omega
  have n2 : w1.heap.size ≠ w.heap.size + 1 := by have := L1.out; omega
  refine hK.out _ _ ?_ (fun hHeld => ?_)
  · exact ⟨⟨fun j u hu => (cell_setCells_far _ _ _ _ _ n1).trans (B1.out.at_.later b4 j u hu), (cell_setCells_far _ _ _ _ _ n1).trans (cell_later' xb b4), (cell_setCells_far _ _ _ _ _ n1).trans (cell_later' xc b4)⟩, (cell_setCells_far _ _ _ _ _ n2).trans (cell_later' y0 b4), (cell_setCells_far _ _ _ _ _ n2).trans (cell_later' y1 b4), (cell_setCells_far _ _ _ _ _ n2).trans (cell_later' y2 b4), (cell_setCells_far _ _ _ _ _ n2).trans (cell_later' y3 b4), (cell_setCells_far _ _ _ _ _ n2).trans (cell_later' y4 b4)⟩
  clear hK K
  try simp only [Act.put, List.setIfInBounds_toArray, List.set_cons_zero, List.set_cons_succ]
  refine wpAnyH_done (by kernel_rfl) ?_ _
  try simp only [Act.put, List.setIfInBounds_toArray, List.set_cons_zero, List.set_cons_succ]
  go_wp2
  have TT := Told.call B1.out b4 h9 (fun g hg ha => v9 g (Nat.lt_of_lt_of_le hg b3.size) ha)
  exact bodyPost_ret (v := .agg C9) (results_st rfl _ (w.heap.size + 1) (by first | rfl | simp) TT.st _ TT.at_) rfl TT.post
end Go.Proofs.YtcibifgbnpcpmaaDoor
