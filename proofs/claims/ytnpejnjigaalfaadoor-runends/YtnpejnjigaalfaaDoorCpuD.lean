/- What the code's functions on states return: output, saves. -/
import Derived.Test.YtnpejnjigaalfaaDoorCpuC
namespace Go.Proofs.YtnpejnjigaalfaaDoor
open Go.ChangeShapes Go.WideShapes Go.ChangeAt Go.RowKit
set_option linter.unusedVariables false
set_option linter.unusedSimpArgs false
set_option maxRecDepth 100000 in
theorem out_full {w : World} {C : Array Value} {s : St} (h : IsSt w (.agg C) s) (hs : Small s) (op : Int) (k : Nat) (b c imm : Int) (hk : k < 16) (hn : ¬ s.on_ < 4096) :
    Calls Tryd.prog 55 #[.agg C, .agg (#[.int .i64 op, .int .i64 k, .int .i64 b, .int .i64 c, .int .i64 imm])] w (StPost w C { s with at_ := s.at_ + 1 + 0 }) := by
  obtain ⟨-, hat, hl, -⟩ := hs
  have hn' : ¬ (s.on_ : Int) < 4096 := by omega
  have B0 : Hid (Boxed w (((w.alloc (.cells C 37)).alloc (.cells #[.int .i64 op, .int .i64 k, .int .i64 b, .int .i64 c, .int .i64 imm] 54)).alloc (.cells noSt 37)) w.heap.size (w.heap.size + 2) C C s) := Boxed.new3 h _ _ _ _
  have I0 : Hid (InsAt (((w.alloc (.cells C 37)).alloc (.cells #[.int .i64 op, .int .i64 k, .int .i64 b, .int .i64 c, .int .i64 imm] 54)).alloc (.cells noSt 37)) (w.heap.size + 1) op k b c imm) := ins_new3 _ _ _ _ _ _ _ _ _ _ _
  clear h
  go_enter Tryd.func55, Tryd.ntmps55
  go_upto_region 1 with fail
  rw [noSt_def]
  generalize ((w.alloc (.cells C 37)).alloc (.cells #[.int .i64 op, .int .i64 k, .int .i64 b, .int .i64 c, .int .i64 imm] 54)).alloc (.cells noSt 37) = w0 at B0 I0 ⊢
  obtain ⟨ba, bc, ma, mc, ia, ic, oa, oc, ⟨-, -, -, x21⟩, -⟩ := list_st B0.out
  go_wp2_with (first
    | (go_at_call 57; refine (lead_st B0.out.st hat 0 (by omega)).mono ?_; rintro e w9 ⟨C9, rfl, h9, v9, b9⟩)
    | ((with_reducible show wpList _ _ _ (Oper.mk _ (Op.load _ _) _ _ _ _ :: _) _ _); refine wpList_load_if (by rfl) 37 (.tmp 2) rfl w.heap.size 0 rfl C.toList _ (at_range B0.out.at_) Tryd.underlying37 rfl (st_info B0.out.st).2 ?_)
    | ((with_reducible show wpList _ _ _ (Oper.mk _ (Op.store _ _ _) _ _ _ _ :: _) _ _); refine wpList_store_room (w := w) rfl (.tmp 4) (.tmp 22) rfl (w.heap.size + 2) C9 rfl rfl h9 (there_later B0.out.room b9) ?_))
  have TT := Told.call B0.out b9 h9 v9
  exact bodyPost_ret (v := .agg C9) (results_st rfl _ (w.heap.size + 2) (by first | rfl | simp) TT.st _ TT.at_) rfl TT.post
set_option maxRecDepth 100000 in
theorem out_room {w : World} {C : Array Value} {s : St} (h : IsSt w (.agg C) s) (hs : Small s) (op : Int) (k : Nat) (b c imm : Int) (hk : k < 16) (hn : s.on_ < 4096) :
    Calls Tryd.prog 55 #[.agg C, .agg (#[.int .i64 op, .int .i64 k, .int .i64 b, .int .i64 c, .int .i64 imm])] w (StPost w C { s with on_ := s.on_ + 1, of_ := fun j => if j = s.on_ then s.r k % 256 else s.of_ j, at_ := s.at_ + 1 + 0 }) := by
  obtain ⟨⟨-, hr⟩, hat, hl, -⟩ := hs
  have hn' : (s.on_ : Int) < 4096 := by omega
  have B0 : Hid (Boxed w (((w.alloc (.cells C 37)).alloc (.cells #[.int .i64 op, .int .i64 k, .int .i64 b, .int .i64 c, .int .i64 imm] 54)).alloc (.cells noSt 37)) w.heap.size (w.heap.size + 2) C C s) := Boxed.new3 h _ _ _ _
  have I0 : Hid (InsAt (((w.alloc (.cells C 37)).alloc (.cells #[.int .i64 op, .int .i64 k, .int .i64 b, .int .i64 c, .int .i64 imm] 54)).alloc (.cells noSt 37)) (w.heap.size + 1) op k b c imm) := ins_new3 _ _ _ _ _ _ _ _ _ _ _
  clear h
  go_enter Tryd.func55, Tryd.ntmps55
  go_upto_region 1 with fail
  rw [noSt_def]
  generalize ((w.alloc (.cells C 37)).alloc (.cells #[.int .i64 op, .int .i64 k, .int .i64 b, .int .i64 c, .int .i64 imm] 54)).alloc (.cells noSt 37) = w0 at B0 I0 ⊢
  obtain ⟨y0, y1, y2, y3, y4⟩ := id I0.out
  have xk := (cell_st B0.out).2.1 k hk
  have xk' : w0.cell? ⟨w.heap.size, k + 1, none⟩ = some (.int .u32 (s.r k)) := by rw [Nat.add_comm]; exact xk
  have hk' : (k : Int) < 16 := by omega
  obtain ⟨ba, bc, ma, mc, ia, ic, oa, oc, ⟨-, -, -, x21⟩, -, -, -, hd⟩ := list_st B0.out
  have f21 : w0.frozen? ⟨w.heap.size, 21, none⟩ = false := B0.out.fz 21
  have rk := hr k
  obtain ⟨v, ev⟩ : ∃ v, IntKind.u8.wrap (s.r k) = v := ⟨_, rfl⟩
  have EV : Hid (IntKind.u8.wrap (s.r k) = v) := ev
  have HC : Hid (∀ W, Below w0.heap.size w0 W → W.cell? ⟨w0.heap.size, 0, none⟩ = some (.int .u8 v) → W.cell? ⟨w0.heap.size + 1, 0, none⟩ = some (.slice oa s.on_ oc) → W.cell? ⟨w0.heap.size + 1, 1, none⟩ = some (.slice (some ⟨w0.heap.size, 0, none⟩) 1 1) →
      Calls Tryd.prog 67 #[.slice (some ⟨w0.heap.size + 1, 0, none⟩) 2 2] W fun e w' =>
      ∃ a' c', e = .returned (.slice a' (s.on_ + 1) c') ∧ (Head a' (s.on_ + 1) c' ∧ Bytes w' a' (s.on_ + 1) (fun j => if j = s.on_ then s.r k % 256 else s.of_ j)) ∧ (∀ x, a' = some x → w0.heap.size ≤ x.block) ∧ Below w0.heap.size w0 w') := by
    intro W bW z0 p0 p1
    rw [← ev, show IntKind.u8.wrap (s.r k) = s.r k % 256 from by simp [IntKind.wrap, IntKind.bits, IntKind.signed]] at z0
    have bd : ∀ (f : Nat → Int), (∀ i, 0 ≤ f i ∧ f i < 256) → ∀ i, (Lit.int .u8 (f i)).wf = true := fun f hf i => by have := hf i; simp [Lit.wf, IntKind.min, IntKind.max, IntKind.signed, IntKind.bits]; omega
    have rx : 0 ≤ s.r k % 256 ∧ s.r k % 256 < 256 := by omega
    refine (concat_b W (w0.heap.size + 1) oa (some ⟨w0.heap.size, 0, none⟩) s.on_ 1 oc 1 s.of_ (fun _ => s.r k % 256) (by omega) hd.1 ⟨Nat.le_refl _, fun e => by cases e⟩ (bytes_rowK (hd.2.later bW)) ⟨bd _ fun _ => rx, .inr ⟨_, _, rfl, fun i hi => by obtain rfl : i = 0 := (by omega); exact z0⟩⟩ p0 p1).mono ?_
    rintro e w' ⟨a', c', rfl, ow, hb⟩
    have o1 := own_bytes ow (fun i => by (try simp only []); split; exact hd.2.1 i; exact rx)
    refine ⟨a', c', rfl, ⟨o1.1, bytes_congr o1.2 (fun i => by (try simp only []); split; exact rx; exact hd.2.1 i) fun j hj => ?_⟩, fun x e => ?_, bnext bW hb⟩
    · by_cases e : j = s.on_
      · subst e; rw [if_pos rfl, if_neg (by omega)]
      · rw [if_neg e, if_pos (by omega)]
    · have := own_blk ow x e; have := bW.size; omega
  have lt0 : w.heap.size < w0.heap.size := B0.out.hb.2.2.2.1
  clear hd hr ev
  obtain ⟨q0, q1⟩ := rk
  go_upto_region 2 with fail
  refine wp_region_held_drew (S := fun w' => w'.cell? ⟨w.heap.size + 1, 1, none⟩ = some (.int .i64 k) ∧ w'.cell? ⟨w.heap.size, 1 + k, none⟩ = some (.int .u32 (s.r k))) (by kernel_rfl) ?_ (fun hHeld => ?_)
  · exact ⟨y1, xk⟩
  refine wpAnyH_take (i := 0) (v := ?_) rfl (by kernel_rfl) (by kernel_rfl) (by kernel_rfl) (fun _ _ _ h => h) (Or.inl ⟨by rfl, ?_⟩) (by assumption) ?_
  rotate_left
  · intro w hSw; (try dsimp only at hSw); first | (go_simp; done) | (go_simp; with_reducible rfl)
  try simp only [Act.put, List.setIfInBounds_toArray, List.set_cons_zero, List.set_cons_succ]
  refine wpAnyH_take (i := 2) (v := ?_) rfl (by kernel_rfl) (by kernel_rfl) (by kernel_rfl) (fun _ _ _ h => h) (Or.inl ⟨by rfl, ?_⟩) (by assumption) ?_
  rotate_left
  · intro w hSw; (try dsimp only at hSw); first | (go_simp; done) | (go_simp; with_reducible rfl)
  try simp only [Act.put, List.setIfInBounds_toArray, List.set_cons_zero, List.set_cons_succ]
  refine wpAnyH_take (i := 3) (v := ?_) rfl (by kernel_rfl) (by kernel_rfl) (by kernel_rfl) (fun _ _ _ h => h) (Or.inl ⟨by rfl, ?_⟩) (by assumption) ?_
  rotate_left
  · intro w hSw; (try dsimp only at hSw); obtain ⟨s1, s2⟩ := hSw; first | (go_simp; done) | (go_simp; with_reducible rfl)
  try simp only [Act.put, List.setIfInBounds_toArray, List.set_cons_zero, List.set_cons_succ]
  refine wpAnyH_take (i := 4) (v := ?_) rfl (by kernel_rfl) (by kernel_rfl) (by kernel_rfl) (fun _ _ _ h => h) (Or.inl ⟨by rfl, ?_⟩) (by assumption) ?_
  rotate_left
  · intro w hSw; (try dsimp only at hSw); first | (go_simp; done) | (go_simp; with_reducible rfl)
  try simp only [Act.put, List.setIfInBounds_toArray, List.set_cons_zero, List.set_cons_succ]
  refine wpAnyH_take (i := 5) (v := ?_) rfl (by kernel_rfl) (by kernel_rfl) (by kernel_rfl) (fun _ _ _ h => h) (Or.inl ⟨by rfl, ?_⟩) (by assumption) ?_
  rotate_left
  · intro w hSw; (try dsimp only at hSw); obtain ⟨s1, s2⟩ := hSw; first | (go_simp; done) | (go_simp; with_reducible rfl)
  try simp only [Act.put, List.setIfInBounds_toArray, List.set_cons_zero, List.set_cons_succ]
  refine wpAnyH_take (i := 6) (v := ?_) rfl (by kernel_rfl) (by kernel_rfl) (by kernel_rfl) (fun _ _ _ h => h) (Or.inl ⟨by rfl, ?_⟩) (by assumption) ?_
  rotate_left
  · intro w hSw; (try dsimp only at hSw); obtain ⟨s1, s2⟩ := hSw; first | (go_simp; done) | (go_simp; with_reducible rfl)
  try simp only [Act.put, List.setIfInBounds_toArray, List.set_cons_zero, List.set_cons_succ]
  refine wpAnyH_take (i := 7) (v := .int .u8 v) rfl (by kernel_rfl) (by kernel_rfl) (by kernel_rfl) (fun _ _ _ h => h) (Or.inl ⟨by rfl, ?_⟩) (by assumption) ?_
  · intro w hSw; (try dsimp only at hSw); have e7 := EV.out; first | (go_simp; done) | (go_simp; with_reducible rfl)
  try simp only [Act.put, List.setIfInBounds_toArray, List.set_cons_zero, List.set_cons_succ]
  refine wpAnyH_ready (rs := [1, 8]) (by kernel_rfl) (by simp) (AllReadyH.cons (o := { dst := some 10, op := Op.load 23 (.tmp 9), type := _, pos := _, after := _, guard := none }) rfl (fun K hK => ?_) (AllReadyH.cons (o := { dst := some 17, op := Op.buildSlice 23 1 #[(0, .tmp 16)], type := _, pos := _, after := _, guard := none }) rfl (fun K hK => ?_) AllReadyH.nil))
  · go_simp
    refine hK.out _ _ ?_ (fun hHeld => ?_)
    · exact ⟨cell_later' y1 (by repeat (first | exact hHeld | exact Below.refl _ _ | refine keep_alloc ?_ _ | refine keep_drew ?_ | exact (Below.refl _ _).drew)), cell_later' xk (by repeat (first | exact hHeld | exact Below.refl _ _ | refine keep_alloc ?_ _ | refine keep_drew ?_ | exact (Below.refl _ _).drew))⟩
    clear hK K
    try simp only [Act.put, List.setIfInBounds_toArray, List.set_cons_zero, List.set_cons_succ]
    refine wpAnyH_ready (rs := [8]) (by kernel_rfl) (by simp) (AllReadyH.cons (o := { dst := some 17, op := Op.buildSlice 23 1 #[(0, .tmp 16)], type := _, pos := _, after := _, guard := none }) rfl (fun K hK => ?_) AllReadyH.nil)
    go_simp
    refine hK.out _ _ ?_ (fun hHeld => ?_)
    · exact ⟨cell_later' y1 (by repeat (first | exact hHeld | exact Below.refl _ _ | refine keep_alloc ?_ _ | refine keep_drew ?_ | exact (Below.refl _ _).drew)), cell_later' xk (by repeat (first | exact hHeld | exact Below.refl _ _ | refine keep_alloc ?_ _ | refine keep_drew ?_ | exact (Below.refl _ _).drew))⟩
    clear hK K
    try simp only [Act.put, List.setIfInBounds_toArray, List.set_cons_zero, List.set_cons_succ]
    refine wpAnyH_ready (rs := [9]) (by kernel_rfl) (by simp) (AllReadyH.cons (o := { dst := some 18, op := Op.buildSlice 97 2 #[(0, .tmp 10), (1, .tmp 17)], type := _, pos := _, after := _, guard := none }) rfl (fun K hK => ?_) AllReadyH.nil)
    go_simp
    refine hK.out _ _ ?_ (fun hHeld => ?_)
    · exact ⟨cell_later' y1 (by repeat (first | exact hHeld | exact Below.refl _ _ | refine keep_alloc ?_ _ | refine keep_drew ?_ | exact (Below.refl _ _).drew)), cell_later' xk (by repeat (first | exact hHeld | exact Below.refl _ _ | refine keep_alloc ?_ _ | refine keep_drew ?_ | exact (Below.refl _ _).drew))⟩
    clear hK K
    try simp only [Act.put, List.setIfInBounds_toArray, List.set_cons_zero, List.set_cons_succ]
    refine wpAnyH_ready (rs := [10]) (by kernel_rfl) (by simp) (AllReadyH.cons (o := { dst := some 19, op := Op.call { callee := .value (.func 67), args := #[.tmp 18], argTypes := #[97] }, type := _, pos := _, after := _, guard := none }) rfl (fun K hK => ?_) AllReadyH.nil)
    go_simp
    refine (HC.out _ (by repeat (first | exact hHeld | exact Below.refl _ _ | refine keep_alloc ?_ _ | refine keep_drew ?_ | exact (Below.refl _ _).drew)) (by simp [go_sem]) (by simp [go_sem]) (by simp [go_sem])).mono ?_
    rintro e w5 ⟨a5, c5, rfl, h5, v5, b5⟩
    have x21' := cell_later' x21 b5
    have f21' : w5.frozen? ⟨w.heap.size, 21, none⟩ = false := (B0.out.later b5).fz 21
    refine hK.out _ _ ?_ (fun hHeld => ?_)
    · exact ⟨cell_later' y1 b5, cell_later' xk b5⟩
    clear hK K
    try simp only [Act.put, List.setIfInBounds_toArray, List.set_cons_zero, List.set_cons_succ]
    refine wpAnyH_take (i := 11) (v := ?_) rfl (by kernel_rfl) (by kernel_rfl) (by kernel_rfl) (fun _ _ _ h => h) (Or.inl ⟨by rfl, ?_⟩) (by assumption) ?_
    rotate_left
    · intro w hSw; (try dsimp only at hSw); first | (go_simp; done) | (go_simp; with_reducible rfl)
    try simp only [Act.put, List.setIfInBounds_toArray, List.set_cons_zero, List.set_cons_succ]
    refine wpAnyH_ready (rs := [12]) (by kernel_rfl) (by simp) (AllReadyH.cons (o := { dst := none, op := Op.store 23 (.tmp 20) (.tmp 19), type := _, pos := _, after := _, guard := none }) rfl (fun K hK => ?_) AllReadyH.nil)
    go_simp
    refine hK.out _ _ ?_ (fun hHeld => ?_)
    · exact ⟨(World.cell?_setCell_other _ _ _ _ (fun e => by have := congrArg Addr.block e; simp at this)).trans (cell_later' y1 b5), (World.cell?_setCell_other _ _ _ _ (fun e => by have := congrArg Addr.off e; simp at this; omega)).trans (cell_later' xk b5)⟩
    clear hK K
    try simp only [Act.put, List.setIfInBounds_toArray, List.set_cons_zero, List.set_cons_succ]
    refine wpAnyH_done (by kernel_rfl) ?_ _
    try simp only [Act.put, List.setIfInBounds_toArray, List.set_cons_zero, List.set_cons_succ]
    have B2 : Hid (Boxed w (w5.setCell ⟨w.heap.size, 21, none⟩ (.slice a5 (s.on_ + 1) c5)) w.heap.size (w.heap.size + 2) C (C.setIfInBounds 21 (.slice a5 (s.on_ + 1) c5)) { s with on_ := s.on_ + 1, of_ := fun j => if j = s.on_ then s.r k % 256 else s.of_ j }) :=
      (B0.out.later b5).put 21 (by omega) _ (fun g hg => off_new v5 (by have := B0.out.hb; have := B0.out.bel.size; omega)) (put_out (B0.out.later b5).st a5 _ c5 _ h5)
    clear h5 v5 b5 B0 I0 HC x21' f21'
    generalize w5.setCell ⟨w.heap.size, 21, none⟩ (.slice a5 (s.on_ + 1) c5) = w6 at B2 ⊢
    generalize C.setIfInBounds 21 (.slice a5 (s.on_ + 1) c5) = C2 at B2
    go_wp2_with (first
      | (go_at_call 57; refine (lead_st B2.out.st hat 0 (by omega)).mono ?_; rintro e w9 ⟨C9, rfl, h9, v9, b9⟩)
      | ((with_reducible show wpList _ _ _ (Oper.mk _ (Op.load _ _) _ _ _ _ :: _) _ _); refine wpList_load_if (by rfl) 37 (.tmp 2) rfl w.heap.size 0 rfl C2.toList _ (at_range B2.out.at_) Tryd.underlying37 rfl (st_info B2.out.st).2 ?_)
      | ((with_reducible show wpList _ _ _ (Oper.mk _ (Op.store _ _ _) _ _ _ _ :: _) _ _); refine wpList_store_room (w := w) rfl (.tmp 4) (.tmp 22) rfl (w.heap.size + 2) C9 rfl rfl h9 (there_later B2.out.room b9) ?_))
    have TT := Told.call B2.out b9 h9 v9
    exact bodyPost_ret (v := .agg C9) (results_st rfl _ (w.heap.size + 2) (by first | rfl | simp) TT.st _ TT.at_) rfl TT.post
  · go_simp
    refine hK.out _ _ ?_ (fun hHeld => ?_)
    · exact ⟨cell_later' y1 (by repeat (first | exact hHeld | exact Below.refl _ _ | refine keep_alloc ?_ _ | refine keep_drew ?_ | exact (Below.refl _ _).drew)), cell_later' xk (by repeat (first | exact hHeld | exact Below.refl _ _ | refine keep_alloc ?_ _ | refine keep_drew ?_ | exact (Below.refl _ _).drew))⟩
    clear hK K
    try simp only [Act.put, List.setIfInBounds_toArray, List.set_cons_zero, List.set_cons_succ]
    refine wpAnyH_ready (rs := [1]) (by kernel_rfl) (by simp) (AllReadyH.cons (o := { dst := some 10, op := Op.load 23 (.tmp 9), type := _, pos := _, after := _, guard := none }) rfl (fun K hK => ?_) AllReadyH.nil)
    go_simp
    refine hK.out _ _ ?_ (fun hHeld => ?_)
    · exact ⟨cell_later' y1 (by repeat (first | exact hHeld | exact Below.refl _ _ | refine keep_alloc ?_ _ | refine keep_drew ?_ | exact (Below.refl _ _).drew)), cell_later' xk (by repeat (first | exact hHeld | exact Below.refl _ _ | refine keep_alloc ?_ _ | refine keep_drew ?_ | exact (Below.refl _ _).drew))⟩
    clear hK K
    try simp only [Act.put, List.setIfInBounds_toArray, List.set_cons_zero, List.set_cons_succ]
    refine wpAnyH_ready (rs := [9]) (by kernel_rfl) (by simp) (AllReadyH.cons (o := { dst := some 18, op := Op.buildSlice 97 2 #[(0, .tmp 10), (1, .tmp 17)], type := _, pos := _, after := _, guard := none }) rfl (fun K hK => ?_) AllReadyH.nil)
    go_simp
    refine hK.out _ _ ?_ (fun hHeld => ?_)
    · exact ⟨cell_later' y1 (by repeat (first | exact hHeld | exact Below.refl _ _ | refine keep_alloc ?_ _ | refine keep_drew ?_ | exact (Below.refl _ _).drew)), cell_later' xk (by repeat (first | exact hHeld | exact Below.refl _ _ | refine keep_alloc ?_ _ | refine keep_drew ?_ | exact (Below.refl _ _).drew))⟩
    clear hK K
    try simp only [Act.put, List.setIfInBounds_toArray, List.set_cons_zero, List.set_cons_succ]
    refine wpAnyH_ready (rs := [10]) (by kernel_rfl) (by simp) (AllReadyH.cons (o := { dst := some 19, op := Op.call { callee := .value (.func 67), args := #[.tmp 18], argTypes := #[97] }, type := _, pos := _, after := _, guard := none }) rfl (fun K hK => ?_) AllReadyH.nil)
    go_simp
    refine (HC.out _ (by repeat (first | exact hHeld | exact Below.refl _ _ | refine keep_alloc ?_ _ | refine keep_drew ?_ | exact (Below.refl _ _).drew)) (by simp [go_sem]) (by simp [go_sem]) (by simp [go_sem])).mono ?_
    rintro e w5 ⟨a5, c5, rfl, h5, v5, b5⟩
    have x21' := cell_later' x21 b5
    have f21' : w5.frozen? ⟨w.heap.size, 21, none⟩ = false := (B0.out.later b5).fz 21
    refine hK.out _ _ ?_ (fun hHeld => ?_)
    · exact ⟨cell_later' y1 b5, cell_later' xk b5⟩
    clear hK K
    try simp only [Act.put, List.setIfInBounds_toArray, List.set_cons_zero, List.set_cons_succ]
    refine wpAnyH_take (i := 11) (v := ?_) rfl (by kernel_rfl) (by kernel_rfl) (by kernel_rfl) (fun _ _ _ h => h) (Or.inl ⟨by rfl, ?_⟩) (by assumption) ?_
    rotate_left
    · intro w hSw; (try dsimp only at hSw); first | (go_simp; done) | (go_simp; with_reducible rfl)
    try simp only [Act.put, List.setIfInBounds_toArray, List.set_cons_zero, List.set_cons_succ]
    refine wpAnyH_ready (rs := [12]) (by kernel_rfl) (by simp) (AllReadyH.cons (o := { dst := none, op := Op.store 23 (.tmp 20) (.tmp 19), type := _, pos := _, after := _, guard := none }) rfl (fun K hK => ?_) AllReadyH.nil)
    go_simp
    refine hK.out _ _ ?_ (fun hHeld => ?_)
    · exact ⟨(World.cell?_setCell_other _ _ _ _ (fun e => by have := congrArg Addr.block e; simp at this)).trans (cell_later' y1 b5), (World.cell?_setCell_other _ _ _ _ (fun e => by have := congrArg Addr.off e; simp at this; omega)).trans (cell_later' xk b5)⟩
    clear hK K
    try simp only [Act.put, List.setIfInBounds_toArray, List.set_cons_zero, List.set_cons_succ]
    refine wpAnyH_done (by kernel_rfl) ?_ _
    try simp only [Act.put, List.setIfInBounds_toArray, List.set_cons_zero, List.set_cons_succ]
    have B2 : Hid (Boxed w (w5.setCell ⟨w.heap.size, 21, none⟩ (.slice a5 (s.on_ + 1) c5)) w.heap.size (w.heap.size + 2) C (C.setIfInBounds 21 (.slice a5 (s.on_ + 1) c5)) { s with on_ := s.on_ + 1, of_ := fun j => if j = s.on_ then s.r k % 256 else s.of_ j }) :=
      (B0.out.later b5).put 21 (by omega) _ (fun g hg => off_new v5 (by have := B0.out.hb; have := B0.out.bel.size; omega)) (put_out (B0.out.later b5).st a5 _ c5 _ h5)
    clear h5 v5 b5 B0 I0 HC x21' f21'
    generalize w5.setCell ⟨w.heap.size, 21, none⟩ (.slice a5 (s.on_ + 1) c5) = w6 at B2 ⊢
    generalize C.setIfInBounds 21 (.slice a5 (s.on_ + 1) c5) = C2 at B2
    go_wp2_with (first
      | (go_at_call 57; refine (lead_st B2.out.st hat 0 (by omega)).mono ?_; rintro e w9 ⟨C9, rfl, h9, v9, b9⟩)
      | ((with_reducible show wpList _ _ _ (Oper.mk _ (Op.load _ _) _ _ _ _ :: _) _ _); refine wpList_load_if (by rfl) 37 (.tmp 2) rfl w.heap.size 0 rfl C2.toList _ (at_range B2.out.at_) Tryd.underlying37 rfl (st_info B2.out.st).2 ?_)
      | ((with_reducible show wpList _ _ _ (Oper.mk _ (Op.store _ _ _) _ _ _ _ :: _) _ _); refine wpList_store_room (w := w) rfl (.tmp 4) (.tmp 22) rfl (w.heap.size + 2) C9 rfl rfl h9 (there_later B2.out.room b9) ?_))
    have TT := Told.call B2.out b9 h9 v9
    exact bodyPost_ret (v := .agg C9) (results_st rfl _ (w.heap.size + 2) (by first | rfl | simp) TT.st _ TT.at_) rfl TT.post
end Go.Proofs.YtnpejnjigaalfaaDoor
