/- What the code's functions on states return: saves. -/
import Derived.Test.YtnpejnjigaalfaaDoorCpuC
namespace Go.Proofs.YtnpejnjigaalfaaDoor
open Go.ChangeShapes Go.WideShapes Go.ChangeAt Go.RowKit
set_option linter.unusedVariables false
set_option linter.unusedSimpArgs false
theorem savedF_bd {f : Nat → Int} (hf : ∀ i, 0 ≤ f i ∧ f i < 256) {x : Int} (hx : 0 ≤ x ∧ x < 4294967296) (at_ : Int) (wide : Bool) : ∀ i, 0 ≤ savedF f at_ x wide i ∧ savedF f at_ x wide i < 256 := by
  intro i
  unfold savedF putK
  have hi := hf i
  generalize (if wide = true then 4 else 1) = m
  split
  · have := Int.emod_nonneg (x / 256 ^ (i - (at_ - 65536).toNat)) (show (256 : Int) ≠ 0 by decide)
    have := Int.emod_lt_of_pos (x / 256 ^ (i - (at_ - 65536).toNat)) (show (0 : Int) < 256 by decide)
    omega
  · exact hi
theorem put_wt {w : World} {C : Array Value} {s : St} (h : IsSt w (.agg C) s) (x : Int) : IsSt w (.agg (C.setIfInBounds 18 (.int .i64 x))) { s with wt := x } := by
  obtain ⟨ba, bc, ma, mc, ia, ic, oa, oc, e, h⟩ := h
  simp only [Value.agg.injEq] at e
  subst e
  exact ⟨ba, bc, ma, mc, ia, ic, oa, oc, rfl, h⟩
theorem mem_info2 : (Tryd.prog.info? 35).map (·.size) = some 2 := by kernel_rfl
theorem mem_set {w : World} {g : Nat} (u v : Value) (h : w.there g 0 2) : (w.setCells g 0 [u, v]).cell? ⟨g, 0, none⟩ = some u ∧ (w.setCells g 0 [u, v]).cell? ⟨g, 1, none⟩ = some v := by
  have h2 := World.rangeAt_setCells_same w g 0 [u, v] h
  exact ⟨h2 0 _ rfl, h2 1 _ rfl⟩
theorem rowB_bytes {w : World} {g n : Nat} {F : Nat → Int} (h : RowB w g n F) (hF : ∀ i, 0 ≤ F i ∧ F i < 256) : Bytes w (some ⟨g, 0, none⟩) n F :=
  ⟨hF, .inr ⟨g, 0, rfl, fun i hi => by rw [Nat.zero_add]; exact h.1 i hi⟩⟩
set_option maxRecDepth 100000 in
set_option maxHeartbeats 2000000 in
theorem savew_yes {w : World} {C : Array Value} {s : St} (h : IsSt w (.agg C) s) (hs : Small s) (a b : Nat) (c imm : Int) (ha : a < 16) (hb : b < 16) (hi : -1073741824 ≤ imm ∧ imm ≤ 1073741824) (ho : saveB s.mn (whereZ s b imm) true s.wt = true) :
    Calls Tryd.prog 53 #[.agg C, .agg (#[.int .i64 12, .int .i64 a, .int .i64 b, .int .i64 c, .int .i64 imm])] w (StPost w C ({ s with mf := savedF s.mf (whereZ s b imm) (s.r a) true, at_ := s.at_ + 1 + 0 })) := by
  obtain ⟨⟨hr0, hr⟩, hat, hl, hwt, -⟩ := hs
  have B0 : Hid (Boxed w (((w.alloc (.cells C 37)).alloc (.cells #[.int .i64 12, .int .i64 a, .int .i64 b, .int .i64 c, .int .i64 imm] 54)).alloc (.cells noSt 37)) w.heap.size (w.heap.size + 2) C C s) := Boxed.new3 h _ _ _ _
  have I0 : Hid (InsAt (((w.alloc (.cells C 37)).alloc (.cells #[.int .i64 12, .int .i64 a, .int .i64 b, .int .i64 c, .int .i64 imm] 54)).alloc (.cells noSt 37)) (w.heap.size + 1) 12 a b c imm) := ins_new3 _ _ _ _ _ _ _ _ _ _ _
  clear h
  go_enter Tryd.func53, Tryd.ntmps53
  go_upto_region 1 with fail
  rw [noSt_def]
  generalize ((w.alloc (.cells C 37)).alloc (.cells #[.int .i64 12, .int .i64 a, .int .i64 b, .int .i64 c, .int .i64 imm] 54)).alloc (.cells noSt 37) = w0 at B0 I0 ⊢
  obtain ⟨y0, y1, y2, y3, y4⟩ := id I0.out
  have xa := (cell_st B0.out).2.1 a ha
  have xa' : w0.cell? ⟨w.heap.size, a + 1, none⟩ = some (.int .u32 (s.r a)) := by rw [Nat.add_comm]; exact xa
  have ha' : (a : Int) < 16 := by omega
  obtain ⟨-, -, x18, -⟩ := cell_st B0.out
  obtain ⟨ba, bc, ma, mc, ia, ic, oa, oc, ⟨-, x19, -⟩, -, hd, -⟩ := list_st B0.out
  have AD : Hid (∀ W, Below w0.heap.size w0 W → Calls Tryd.prog 65 #[.agg C, .agg (#[.int .i64 12, .int .i64 a, .int .i64 b, .int .i64 c, .int .i64 imm])] W fun e w' => e = .returned (.int .u32 (whereZ s b imm)) ∧ Below W.heap.size W w') := fun W hW => address_any (B0.out.later hW).st hr 12 a b c imm hb hi
  have hw0 : 0 ≤ whereZ s b imm ∧ whereZ s b imm < 4294967296 := by unfold whereZ; omega
  have SV : Hid (∀ W, Below w0.heap.size w0 W → Calls Tryd.prog 66 #[memV s.wt ma s.mn mc, .int .u32 (whereZ s b imm), .int .u32 (s.r a), .bool true] W fun e w' => ∃ g cap', e = .returned (.tuple #[memV s.wt (some ⟨g, 0, none⟩) s.mn cap', .bool true]) ∧ W.heap.size ≤ g ∧ s.mn ≤ cap' ∧ RowB w' g s.mn (savedF s.mf (whereZ s b imm) (s.r a) true) ∧ Below W.heap.size W w') := fun W hW => save_yes s.wt (whereZ s b imm) (s.r a) true ma s.mn mc s.mf W (by omega) hd.1.1 hwt hw0.1 hw0.2 (hr a).1 (hr a).2 (hd.2.later hW) ho
  have SF : Hid (∀ i, 0 ≤ savedF s.mf (whereZ s b imm) (s.r a) true i ∧ savedF s.mf (whereZ s b imm) (s.r a) true i < 256) := savedF_bd hd.2.1 (hr a) _ _
  clear hd ho hwt
  go_upto_region 1 with fail
  refine wp_region_held_drew (S := fun w' => Below w0.heap.size w0 w') (by kernel_rfl) ?_ (fun hHeld => ?_)
  · exact (Below.refl _ _).drew
  refine wpAnyH_take (i := 0) (v := ?_) rfl (by kernel_rfl) (by kernel_rfl) (by kernel_rfl) (fun _ _ _ h => h) (Or.inl ⟨by rfl, ?_⟩) (by assumption) ?_
  rotate_left
  · intro w hSw; (try dsimp only at hSw); first | (go_simp; done) | (go_simp; with_reducible rfl)
  try simp only [Act.put, List.setIfInBounds_toArray, List.set_cons_zero, List.set_cons_succ]
  refine wpAnyH_take (i := 1) (v := memV s.wt ma s.mn mc) rfl (by kernel_rfl) (by kernel_rfl) (by kernel_rfl) (fun _ _ _ h => h) (Or.inl ⟨by rfl, ?_⟩) (by assumption) ?_
  · intro w hSw; (try dsimp only at hSw); unfold memV; have f0 := cell_later' x18 hSw; have f1 := cell_later' x19 hSw; first | (go_simp; done) | (go_simp; with_reducible rfl)
  try simp only [Act.put, List.setIfInBounds_toArray, List.set_cons_zero, List.set_cons_succ]
  refine wpAnyH_take (i := 2) (oi := { dst := some 10, op := Op.load 37 (.tmp 2), type := _, pos := _, after := _, guard := none }) (v := .agg C) rfl (by kernel_rfl) (by kernel_rfl) (by kernel_rfl) (fun _ _ _ h => h) (yields_st (by rfl) (.tmp 2) rfl (w.heap.size) rfl B0.out.st (fun w hw => (B0.out.at_).later hw)) (by assumption) ?_
  try simp only [Act.put, List.setIfInBounds_toArray, List.set_cons_zero, List.set_cons_succ]
  refine wpAnyH_take (i := 3) (v := .agg #[.int .i64 12, .int .i64 a, .int .i64 b, .int .i64 c, .int .i64 imm]) rfl (by kernel_rfl) (by kernel_rfl) (by kernel_rfl) (fun _ _ _ h => h) (Or.inl ⟨by rfl, ?_⟩) (by assumption) ?_
  · intro w hSw; (try dsimp only at hSw); have f0 := cell_later' y0 hSw; have f1 := cell_later' y1 hSw; have f2 := cell_later' y2 hSw; have f3 := cell_later' y3 hSw; have f4 := cell_later' y4 hSw; first | (go_simp; done) | (go_simp; with_reducible rfl)
  try simp only [Act.put, List.setIfInBounds_toArray, List.set_cons_zero, List.set_cons_succ]
  refine wpAnyH_take (i := 5) (v := ?_) rfl (by kernel_rfl) (by kernel_rfl) (by kernel_rfl) (fun _ _ _ h => h) (Or.inl ⟨by rfl, ?_⟩) (by assumption) ?_
  rotate_left
  · intro w hSw; (try dsimp only at hSw); first | (go_simp; done) | (go_simp; with_reducible rfl)
  try simp only [Act.put, List.setIfInBounds_toArray, List.set_cons_zero, List.set_cons_succ]
  refine wpAnyH_take (i := 6) (v := .int .i64 a) rfl (by kernel_rfl) (by kernel_rfl) (by kernel_rfl) (fun _ _ _ h => h) (Or.inl ⟨by rfl, ?_⟩) (by assumption) ?_
  · intro w hSw; (try dsimp only at hSw); have f0 := cell_later' y0 hSw; have f1 := cell_later' y1 hSw; have f2 := cell_later' y2 hSw; have f3 := cell_later' y3 hSw; have f4 := cell_later' y4 hSw; first | (go_simp; done) | (go_simp; with_reducible rfl)
  try simp only [Act.put, List.setIfInBounds_toArray, List.set_cons_zero, List.set_cons_succ]
  refine wpAnyH_take (i := 7) (v := ?_) rfl (by kernel_rfl) (by kernel_rfl) (by kernel_rfl) (fun _ _ _ h => h) (Or.inl ⟨by rfl, ?_⟩) (by assumption) ?_
  rotate_left
  · intro w hSw; (try dsimp only at hSw); first | (go_simp; done) | (go_simp; with_reducible rfl)
  try simp only [Act.put, List.setIfInBounds_toArray, List.set_cons_zero, List.set_cons_succ]
  refine wpAnyH_take (i := 8) (v := ?_) rfl (by kernel_rfl) (by kernel_rfl) (by kernel_rfl) (fun _ _ _ h => h) (Or.inl ⟨by rfl, ?_⟩) (by assumption) ?_
  rotate_left
  · intro w hSw; (try dsimp only at hSw); first | (go_simp; done) | (go_simp; with_reducible rfl)
  try simp only [Act.put, List.setIfInBounds_toArray, List.set_cons_zero, List.set_cons_succ]
  refine wpAnyH_take (i := 9) (v := .int .u32 (s.r a)) rfl (by kernel_rfl) (by kernel_rfl) (by kernel_rfl) (fun _ _ _ h => h) (Or.inl ⟨by rfl, ?_⟩) (by assumption) ?_
  · intro w hSw; (try dsimp only at hSw); have f5 := cell_later' xa hSw; have f6 := cell_later' xa' hSw; first | (go_simp; done) | (go_simp; with_reducible rfl)
  try simp only [Act.put, List.setIfInBounds_toArray, List.set_cons_zero, List.set_cons_succ]
  refine wpAnyH_take (i := 10) (v := ?_) rfl (by kernel_rfl) (by kernel_rfl) (by kernel_rfl) (fun _ _ _ h => h) (Or.inl ⟨by rfl, ?_⟩) (by assumption) ?_
  rotate_left
  · intro w hSw; (try dsimp only at hSw); first | (go_simp; done) | (go_simp; with_reducible rfl)
  try simp only [Act.put, List.setIfInBounds_toArray, List.set_cons_zero, List.set_cons_succ]
  refine wpAnyH_take (i := 11) (v := .int .i64 12) rfl (by kernel_rfl) (by kernel_rfl) (by kernel_rfl) (fun _ _ _ h => h) (Or.inl ⟨by rfl, ?_⟩) (by assumption) ?_
  · intro w hSw; (try dsimp only at hSw); have f0 := cell_later' y0 hSw; have f1 := cell_later' y1 hSw; have f2 := cell_later' y2 hSw; have f3 := cell_later' y3 hSw; have f4 := cell_later' y4 hSw; first | (go_simp; done) | (go_simp; with_reducible rfl)
  try simp only [Act.put, List.setIfInBounds_toArray, List.set_cons_zero, List.set_cons_succ]
  refine wpAnyH_take (i := 12) (v := .bool true) rfl (by kernel_rfl) (by kernel_rfl) (by kernel_rfl) (fun _ _ _ h => h) (Or.inl ⟨by rfl, ?_⟩) (by assumption) ?_
  · intro w hSw; (try dsimp only at hSw); first | (go_simp; done) | (go_simp; with_reducible rfl)
  try simp only [Act.put, List.setIfInBounds_toArray, List.set_cons_zero, List.set_cons_succ]
  refine wpAnyH_ready (rs := [4, 17]) (by kernel_rfl) (by simp) (AllReadyH.cons (o := { dst := some 12, op := Op.call { callee := .value (.func 65), args := #[.tmp 10, .tmp 11], argTypes := #[37, 54] }, type := _, pos := _, after := _, guard := none }) rfl (fun K hK => ?_) (AllReadyH.cons (o := { dst := some 5, op := Op.alloc 35, type := _, pos := _, after := _, guard := none }) rfl (fun K hK => ?_) AllReadyH.nil))
  · go_simp
    refine (AD.out _ hHeld).mono ?_
    rintro e w3 ⟨rfl, hb3⟩
    have l3 : Hid (w0.heap.size ≤ w3.heap.size) := (bnext hHeld hb3).size
    refine hK.out _ _ ?_ (fun hHeld => ?_)
    · exact bnext hHeld hb3
    clear hK K
    try simp only [Act.put, List.setIfInBounds_toArray, List.set_cons_zero, List.set_cons_succ]
    refine wpAnyH_ready (rs := [13, 17]) (by kernel_rfl) (by simp) (AllReadyH.cons (o := { dst := some 21, op := Op.call { callee := .value (.func 66), args := #[.tmp 9, .tmp 12, .tmp 17, .tmp 20], argTypes := #[35, 28, 28, 4] }, type := _, pos := _, after := _, guard := none }) rfl (fun K hK => ?_) (AllReadyH.cons (o := { dst := some 5, op := Op.alloc 35, type := _, pos := _, after := _, guard := none }) rfl (fun K hK => ?_) AllReadyH.nil))
    · go_simp
      refine (SV.out _ hHeld).mono ?_
      rintro e w4 ⟨g4, c4, rfl, g40, c40, r4, hb4⟩
      have l4 : Hid (w0.heap.size ≤ w4.heap.size) := (bnext hHeld hb4).size
      refine hK.out _ _ ?_ (fun hHeld => ?_)
      · exact bnext hHeld hb4
      clear hK K
      try simp only [Act.put, List.setIfInBounds_toArray, List.set_cons_zero, List.set_cons_succ]
      refine wpAnyH_take (i := 14) (v := .tuple #[memV s.wt (some ⟨g4, 0, none⟩) s.mn c4, .bool true]) rfl (by kernel_rfl) (by kernel_rfl) (by kernel_rfl) (fun _ _ _ h => h) (Or.inl ⟨by rfl, ?_⟩) (by assumption) ?_
      · intro w hSw; (try dsimp only at hSw); first | (go_simp; done) | (go_simp; with_reducible rfl)
      try simp only [Act.put, List.setIfInBounds_toArray, List.set_cons_zero, List.set_cons_succ]
      refine wpAnyH_take (i := 15) (v := memV s.wt (some ⟨g4, 0, none⟩) s.mn c4) rfl (by kernel_rfl) (by kernel_rfl) (by kernel_rfl) (fun _ _ _ h => h) (Or.inl ⟨by rfl, ?_⟩) (by assumption) ?_
      · intro w hSw; (try dsimp only at hSw); unfold memV; first | (go_simp; done) | (go_simp; with_reducible rfl)
      try simp only [Act.put, List.setIfInBounds_toArray, List.set_cons_zero, List.set_cons_succ]
      refine wpAnyH_take (i := 16) (v := .bool true) rfl (by kernel_rfl) (by kernel_rfl) (by kernel_rfl) (fun _ _ _ h => h) (Or.inl ⟨by rfl, ?_⟩) (by assumption) ?_
      · intro w hSw; (try dsimp only at hSw); first | (go_simp; done) | (go_simp; with_reducible rfl)
      try simp only [Act.put, List.setIfInBounds_toArray, List.set_cons_zero, List.set_cons_succ]
      refine wpAnyH_ready (rs := [17]) (by kernel_rfl) (by simp) (AllReadyH.cons (o := { dst := some 5, op := Op.alloc 35, type := _, pos := _, after := _, guard := none }) rfl (fun K hK => ?_) AllReadyH.nil)
      go_simp
      refine hK.out _ _ ?_ (fun hHeld => ?_)
      · exact by repeat (first | exact hHeld | exact Below.refl _ _ | refine keep_alloc ?_ _ | refine keep_drew ?_ | exact (Below.refl _ _).drew)
      clear hK K
      try simp only [Act.put, List.setIfInBounds_toArray, List.set_cons_zero, List.set_cons_succ]
      have hl9 := hHeld.size
      have hl4 : w0.heap.size ≤ w4.heap.size := l4.out
      refine wpAnyH_ready (rs := [18]) (by kernel_rfl) (by simp) (AllReadyH.cons (o := { dst := none, op := Op.store 35 (.tmp 5) (.tmp 22), type := _, pos := _, after := _, guard := none }) rfl (fun K hK => ?_) AllReadyH.nil)
      rw [if_pos (by rfl)]
      refine wp_store_mid 35 (.tmp 5) (.tmp 22) rfl (w4.heap.size) 0 #[.int .i64 s.wt, .slice (some ⟨g4, 0, none⟩) s.mn c4] rfl rfl (by intro j hj; (try simp at hj); rcases j with _ | _ | j <;> first | (simp [go_sem]; done) | omega) mem_info2 (by simp [Value.oneCell']) ?_
      refine hK.out _ _ ?_ (fun hHeld => ?_)
      · exact below_setCells _ _ _ _ hHeld (by have := hl4; omega)
      clear hK K
      try simp only [Act.put, List.setIfInBounds_toArray, List.set_cons_zero, List.set_cons_succ]
      refine wpAnyH_take (i := 19) (v := .bool true) rfl (by kernel_rfl) (by kernel_rfl) (by kernel_rfl) (fun _ _ _ h => h) (Or.inl ⟨by rfl, ?_⟩) (by assumption) ?_
      · intro w hSw; (try dsimp only at hSw); first | (go_simp; done) | (go_simp; with_reducible rfl)
      try simp only [Act.put, List.setIfInBounds_toArray, List.set_cons_zero, List.set_cons_succ]
      refine wpAnyH_done (by kernel_rfl) ?_ _
      try simp only [Act.put, List.setIfInBounds_toArray, List.set_cons_zero, List.set_cons_succ]
      have T4 : (w4.alloc (.cells #[.int .i64 0, .slice none 0 0] 35)).there w4.heap.size 0 2 := (by intro j hj; (try simp at hj); rcases j with _ | _ | j <;> first | (simp [go_sem]; done) | omega)
      have ZZ : Hid (((w4.alloc (.cells #[.int .i64 0, .slice none 0 0] 35)).setCells (w4.heap.size) 0 #[.int .i64 s.wt, .slice (some ⟨g4, 0, none⟩) s.mn c4].toList).cell? ⟨w4.heap.size, 0, none⟩ = some (.int .i64 s.wt) ∧ ((w4.alloc (.cells #[.int .i64 0, .slice none 0 0] 35)).setCells (w4.heap.size) 0 #[.int .i64 s.wt, .slice (some ⟨g4, 0, none⟩) s.mn c4].toList).cell? ⟨w4.heap.size, 1, none⟩ = some (.slice (some ⟨g4, 0, none⟩) s.mn c4)) := mem_set _ _ T4
      have B1 : Hid (Boxed w ((w4.alloc (.cells #[.int .i64 0, .slice none 0 0] 35)).setCells (w4.heap.size) 0 #[.int .i64 s.wt, .slice (some ⟨g4, 0, none⟩) s.mn c4].toList) w.heap.size (w.heap.size + 2) C C s) := B0.out.later hHeld
      have G5 : Hid (w0.heap.size ≤ g4) := (by have h1 := l3.out; omega : w0.heap.size ≤ g4)
      have ne : w4.heap.size ≠ g4 := (by have h1 := r4.2.2; omega)
      have RB : Hid (Bytes ((w4.alloc (.cells #[.int .i64 0, .slice none 0 0] 35)).setCells (w4.heap.size) 0 #[.int .i64 s.wt, .slice (some ⟨g4, 0, none⟩) s.mn c4].toList) (some ⟨g4, 0, none⟩) s.mn (savedF s.mf (whereZ s b imm) (s.r a) true)) := rowB_bytes (((r4.later ((Below.refl _ _).alloc (Nat.le_refl _) _)).far ne _ _).far ne _ _) SF.out
      have RF : Hid ((∀ q, ((w4.alloc (.cells #[.int .i64 0, .slice none 0 0] 35)).setCells (w4.heap.size) 0 #[.int .i64 s.wt, .slice (some ⟨g4, 0, none⟩) s.mn c4].toList).frozen? ⟨g4, q, none⟩ = false) ∧ g4 < ((w4.alloc (.cells #[.int .i64 0, .slice none 0 0] 35)).setCells (w4.heap.size) 0 #[.int .i64 s.wt, .slice (some ⟨g4, 0, none⟩) s.mn c4].toList).heap.size) := (((r4.later ((Below.refl _ _).alloc (Nat.le_refl _) _)).far ne _ _).far ne _ _).2
      have C4 : Hid (s.mn ≤ c4) := c40
      clear g40 c40 r4 ne
      generalize (w4.alloc (.cells #[.int .i64 0, .slice none 0 0] 35)).setCells (w4.heap.size) 0 #[.int .i64 s.wt, .slice (some ⟨g4, 0, none⟩) s.mn c4].toList = w5 at ZZ B1 RB RF ⊢
      clear hHeld hb3 hb4 T4 hl9 hl4
      generalize w4.heap.size = g5 at ZZ ⊢
      obtain ⟨z0, z1⟩ := id ZZ.out
      clear x18 x19 xa xa' y0 y1 y2 y3 y4 ZZ AD SV
      obtain ⟨-, -, x18, -⟩ := cell_st B1.out
      obtain ⟨_, _, _, _, _, _, _, _, ⟨-, x19, -⟩, -⟩ := list_st B1.out
      have f18 : w5.frozen? ⟨w.heap.size, 18, none⟩ = false := B1.out.fz 18
      have f19 : w5.frozen? ⟨w.heap.size, 19, none⟩ = false := B1.out.fz 19
      go_upto_region 5 with fail
      have B2 : Hid (Boxed w (w5.setCell ⟨w.heap.size, 18, none⟩ (.int .i64 s.wt)) w.heap.size (w.heap.size + 2) C (C.setIfInBounds 18 (.int .i64 s.wt)) s) := B1.out.put 18 (by omega) _ (fun g _ => off_int _ _ _) (put_wt B1.out.st s.wt)
      have B3 : Hid (Boxed w ((w5.setCell ⟨w.heap.size, 18, none⟩ (.int .i64 s.wt)).setCell ⟨w.heap.size, 19, none⟩ (.slice (some ⟨g4, 0, none⟩) s.mn c4)) w.heap.size (w.heap.size + 2) C ((C.setIfInBounds 18 (.int .i64 s.wt)).setIfInBounds 19 (.slice (some ⟨g4, 0, none⟩) s.mn c4)) { s with mf := savedF s.mf (whereZ s b imm) (s.r a) true }) :=
        B2.out.putMem g4 s.mn c4 (by have h1 := G5.out; have h2 := B0.out.bel.size; omega) (by have h1 := G5.out; have h2 := B0.out.hb.2.2.2.1; omega) (by have h1 := G5.out; have h2 := B0.out.hb.2.2.2.2; omega) (by simpa using RF.out.2) (fun q => by simpa using RF.out.1 q) (put_mem B2.out.st _ _ c4 _ ⟨⟨C4.out, fun e => by cases e⟩, by
          obtain ⟨e1, e2⟩ := RB.out
          exact ⟨e1, e2.imp id fun ⟨b', off', e3, e4⟩ => ⟨b', off', e3, fun i hi => by rw [World.cell?_setCell_other _ _ _ _ (fun e => by have h1 : w.heap.size = b' := congrArg Addr.block e; have h2 := G5.out; have h3 := B0.out.hb.2.2.2.1; simp only [Option.some.injEq, Addr.mk.injEq] at e3; omega)]; exact e4 i hi⟩⟩⟩)
      clear x18 x19 f18 f19 z0 z1 B1 B2 RB RF G5 C4 B0 I0
      generalize (w5.setCell ⟨w.heap.size, 18, none⟩ (.int .i64 s.wt)).setCell ⟨w.heap.size, 19, none⟩ (.slice (some ⟨g4, 0, none⟩) s.mn c4) = w6 at B3 ⊢
      generalize (C.setIfInBounds 18 (.int .i64 s.wt)).setIfInBounds 19 (.slice (some ⟨g4, 0, none⟩) s.mn c4) = C3 at B3
      go_wp2_with (first
        | (go_at_call 57; refine (lead_st B3.out.st hat 0 (by omega)).mono ?_; rintro e w9 ⟨C9, rfl, h9, v9, b9⟩)
        | ((with_reducible show wpList _ _ _ (Oper.mk _ (Op.load _ _) _ _ _ _ :: _) _ _); refine wpList_load_if (by rfl) 37 (.tmp 2) rfl w.heap.size 0 rfl C3.toList _ (at_range B3.out.at_) Tryd.underlying37 rfl (st_info B3.out.st).2 ?_)
        | ((with_reducible show wpList _ _ _ (Oper.mk _ (Op.store _ _ _) _ _ _ _ :: _) _ _); refine wpList_store_room (w := w) rfl (.tmp 4) (.tmp 31) rfl (w.heap.size + 2) C9 rfl rfl h9 (there_later B3.out.room b9) ?_))
      have TT := Told.call B3.out b9 h9 v9
      exact bodyPost_ret (v := .agg C9) (results_st rfl _ (w.heap.size + 2) (by first | rfl | simp) TT.st _ TT.at_) rfl TT.post
    · go_simp
      refine hK.out _ _ ?_ (fun hHeld => ?_)
      · exact by repeat (first | exact hHeld | exact Below.refl _ _ | refine keep_alloc ?_ _ | refine keep_drew ?_ | exact (Below.refl _ _).drew)
      clear hK K
      try simp only [Act.put, List.setIfInBounds_toArray, List.set_cons_zero, List.set_cons_succ]
      refine wpAnyH_ready (rs := [13]) (by kernel_rfl) (by simp) (AllReadyH.cons (o := { dst := some 21, op := Op.call { callee := .value (.func 66), args := #[.tmp 9, .tmp 12, .tmp 17, .tmp 20], argTypes := #[35, 28, 28, 4] }, type := _, pos := _, after := _, guard := none }) rfl (fun K hK => ?_) AllReadyH.nil)
      go_simp
      refine (SV.out _ hHeld).mono ?_
      rintro e w4 ⟨g4, c4, rfl, g40, c40, r4, hb4⟩
      have l4 : Hid (w0.heap.size ≤ w4.heap.size) := (bnext hHeld hb4).size
      refine hK.out _ _ ?_ (fun hHeld => ?_)
      · exact bnext hHeld hb4
      clear hK K
      try simp only [Act.put, List.setIfInBounds_toArray, List.set_cons_zero, List.set_cons_succ]
      refine wpAnyH_take (i := 14) (v := .tuple #[memV s.wt (some ⟨g4, 0, none⟩) s.mn c4, .bool true]) rfl (by kernel_rfl) (by kernel_rfl) (by kernel_rfl) (fun _ _ _ h => h) (Or.inl ⟨by rfl, ?_⟩) (by assumption) ?_
      · intro w hSw; (try dsimp only at hSw); first | (go_simp; done) | (go_simp; with_reducible rfl)
      try simp only [Act.put, List.setIfInBounds_toArray, List.set_cons_zero, List.set_cons_succ]
      refine wpAnyH_take (i := 15) (v := memV s.wt (some ⟨g4, 0, none⟩) s.mn c4) rfl (by kernel_rfl) (by kernel_rfl) (by kernel_rfl) (fun _ _ _ h => h) (Or.inl ⟨by rfl, ?_⟩) (by assumption) ?_
      · intro w hSw; (try dsimp only at hSw); unfold memV; first | (go_simp; done) | (go_simp; with_reducible rfl)
      try simp only [Act.put, List.setIfInBounds_toArray, List.set_cons_zero, List.set_cons_succ]
      refine wpAnyH_take (i := 16) (v := .bool true) rfl (by kernel_rfl) (by kernel_rfl) (by kernel_rfl) (fun _ _ _ h => h) (Or.inl ⟨by rfl, ?_⟩) (by assumption) ?_
      · intro w hSw; (try dsimp only at hSw); first | (go_simp; done) | (go_simp; with_reducible rfl)
      try simp only [Act.put, List.setIfInBounds_toArray, List.set_cons_zero, List.set_cons_succ]
      have hl9 := hHeld.size
      have T4 := (there_later (b := w3.heap.size) (o := 0) (n := 2) (by intro j hj; (try simp at hj); rcases j with _ | _ | j <;> first | (simp [go_sem]; done) | omega) hb4)
      have hl3 : w0.heap.size ≤ w3.heap.size := l3.out
      refine wpAnyH_ready (rs := [18]) (by kernel_rfl) (by simp) (AllReadyH.cons (o := { dst := none, op := Op.store 35 (.tmp 5) (.tmp 22), type := _, pos := _, after := _, guard := none }) rfl (fun K hK => ?_) AllReadyH.nil)
      rw [if_pos (by rfl)]
      refine wp_store_mid 35 (.tmp 5) (.tmp 22) rfl (w3.heap.size) 0 #[.int .i64 s.wt, .slice (some ⟨g4, 0, none⟩) s.mn c4] rfl rfl T4 mem_info2 (by simp [Value.oneCell']) ?_
      refine hK.out _ _ ?_ (fun hHeld => ?_)
      · exact below_setCells _ _ _ _ hHeld (by have := hl3; omega)
      clear hK K
      try simp only [Act.put, List.setIfInBounds_toArray, List.set_cons_zero, List.set_cons_succ]
      refine wpAnyH_take (i := 19) (v := .bool true) rfl (by kernel_rfl) (by kernel_rfl) (by kernel_rfl) (fun _ _ _ h => h) (Or.inl ⟨by rfl, ?_⟩) (by assumption) ?_
      · intro w hSw; (try dsimp only at hSw); first | (go_simp; done) | (go_simp; with_reducible rfl)
      try simp only [Act.put, List.setIfInBounds_toArray, List.set_cons_zero, List.set_cons_succ]
      refine wpAnyH_done (by kernel_rfl) ?_ _
      try simp only [Act.put, List.setIfInBounds_toArray, List.set_cons_zero, List.set_cons_succ]
      have ZZ : Hid ((w4.setCells (w3.heap.size) 0 #[.int .i64 s.wt, .slice (some ⟨g4, 0, none⟩) s.mn c4].toList).cell? ⟨w3.heap.size, 0, none⟩ = some (.int .i64 s.wt) ∧ (w4.setCells (w3.heap.size) 0 #[.int .i64 s.wt, .slice (some ⟨g4, 0, none⟩) s.mn c4].toList).cell? ⟨w3.heap.size, 1, none⟩ = some (.slice (some ⟨g4, 0, none⟩) s.mn c4)) := mem_set _ _ T4
      have B1 : Hid (Boxed w (w4.setCells (w3.heap.size) 0 #[.int .i64 s.wt, .slice (some ⟨g4, 0, none⟩) s.mn c4].toList) w.heap.size (w.heap.size + 2) C C s) := B0.out.later hHeld
      have G5 : Hid (w0.heap.size ≤ g4) := (by have h1 := l3.out; simp at g40; omega : w0.heap.size ≤ g4)
      have ne : w3.heap.size ≠ g4 := (by simp at g40; omega)
      have RB : Hid (Bytes (w4.setCells (w3.heap.size) 0 #[.int .i64 s.wt, .slice (some ⟨g4, 0, none⟩) s.mn c4].toList) (some ⟨g4, 0, none⟩) s.mn (savedF s.mf (whereZ s b imm) (s.r a) true)) := rowB_bytes ((r4.far ne _ _).far ne _ _) SF.out
      have RF : Hid ((∀ q, (w4.setCells (w3.heap.size) 0 #[.int .i64 s.wt, .slice (some ⟨g4, 0, none⟩) s.mn c4].toList).frozen? ⟨g4, q, none⟩ = false) ∧ g4 < (w4.setCells (w3.heap.size) 0 #[.int .i64 s.wt, .slice (some ⟨g4, 0, none⟩) s.mn c4].toList).heap.size) := ((r4.far ne _ _).far ne _ _).2
      have C4 : Hid (s.mn ≤ c4) := c40
      clear g40 c40 r4 ne
      generalize w4.setCells (w3.heap.size) 0 #[.int .i64 s.wt, .slice (some ⟨g4, 0, none⟩) s.mn c4].toList = w5 at ZZ B1 RB RF ⊢
      clear hHeld hb3 hb4 T4 hl9 hl3
      generalize w3.heap.size = g5 at ZZ ⊢
      obtain ⟨z0, z1⟩ := id ZZ.out
      clear x18 x19 xa xa' y0 y1 y2 y3 y4 ZZ AD SV
      obtain ⟨-, -, x18, -⟩ := cell_st B1.out
      obtain ⟨_, _, _, _, _, _, _, _, ⟨-, x19, -⟩, -⟩ := list_st B1.out
      have f18 : w5.frozen? ⟨w.heap.size, 18, none⟩ = false := B1.out.fz 18
      have f19 : w5.frozen? ⟨w.heap.size, 19, none⟩ = false := B1.out.fz 19
      go_upto_region 5 with fail
      have B2 : Hid (Boxed w (w5.setCell ⟨w.heap.size, 18, none⟩ (.int .i64 s.wt)) w.heap.size (w.heap.size + 2) C (C.setIfInBounds 18 (.int .i64 s.wt)) s) := B1.out.put 18 (by omega) _ (fun g _ => off_int _ _ _) (put_wt B1.out.st s.wt)
      have B3 : Hid (Boxed w ((w5.setCell ⟨w.heap.size, 18, none⟩ (.int .i64 s.wt)).setCell ⟨w.heap.size, 19, none⟩ (.slice (some ⟨g4, 0, none⟩) s.mn c4)) w.heap.size (w.heap.size + 2) C ((C.setIfInBounds 18 (.int .i64 s.wt)).setIfInBounds 19 (.slice (some ⟨g4, 0, none⟩) s.mn c4)) { s with mf := savedF s.mf (whereZ s b imm) (s.r a) true }) :=
        B2.out.putMem g4 s.mn c4 (by have h1 := G5.out; have h2 := B0.out.bel.size; omega) (by have h1 := G5.out; have h2 := B0.out.hb.2.2.2.1; omega) (by have h1 := G5.out; have h2 := B0.out.hb.2.2.2.2; omega) (by simpa using RF.out.2) (fun q => by simpa using RF.out.1 q) (put_mem B2.out.st _ _ c4 _ ⟨⟨C4.out, fun e => by cases e⟩, by
          obtain ⟨e1, e2⟩ := RB.out
          exact ⟨e1, e2.imp id fun ⟨b', off', e3, e4⟩ => ⟨b', off', e3, fun i hi => by rw [World.cell?_setCell_other _ _ _ _ (fun e => by have h1 : w.heap.size = b' := congrArg Addr.block e; have h2 := G5.out; have h3 := B0.out.hb.2.2.2.1; simp only [Option.some.injEq, Addr.mk.injEq] at e3; omega)]; exact e4 i hi⟩⟩⟩)
      clear x18 x19 f18 f19 z0 z1 B1 B2 RB RF G5 C4 B0 I0
      generalize (w5.setCell ⟨w.heap.size, 18, none⟩ (.int .i64 s.wt)).setCell ⟨w.heap.size, 19, none⟩ (.slice (some ⟨g4, 0, none⟩) s.mn c4) = w6 at B3 ⊢
      generalize (C.setIfInBounds 18 (.int .i64 s.wt)).setIfInBounds 19 (.slice (some ⟨g4, 0, none⟩) s.mn c4) = C3 at B3
      go_wp2_with (first
        | (go_at_call 57; refine (lead_st B3.out.st hat 0 (by omega)).mono ?_; rintro e w9 ⟨C9, rfl, h9, v9, b9⟩)
        | ((with_reducible show wpList _ _ _ (Oper.mk _ (Op.load _ _) _ _ _ _ :: _) _ _); refine wpList_load_if (by rfl) 37 (.tmp 2) rfl w.heap.size 0 rfl C3.toList _ (at_range B3.out.at_) Tryd.underlying37 rfl (st_info B3.out.st).2 ?_)
        | ((with_reducible show wpList _ _ _ (Oper.mk _ (Op.store _ _ _) _ _ _ _ :: _) _ _); refine wpList_store_room (w := w) rfl (.tmp 4) (.tmp 31) rfl (w.heap.size + 2) C9 rfl rfl h9 (there_later B3.out.room b9) ?_))
      have TT := Told.call B3.out b9 h9 v9
      exact bodyPost_ret (v := .agg C9) (results_st rfl _ (w.heap.size + 2) (by first | rfl | simp) TT.st _ TT.at_) rfl TT.post
  · go_simp
    refine hK.out _ _ ?_ (fun hHeld => ?_)
    · exact by repeat (first | exact hHeld | exact Below.refl _ _ | refine keep_alloc ?_ _ | refine keep_drew ?_ | exact (Below.refl _ _).drew)
    clear hK K
    try simp only [Act.put, List.setIfInBounds_toArray, List.set_cons_zero, List.set_cons_succ]
    refine wpAnyH_ready (rs := [4]) (by kernel_rfl) (by simp) (AllReadyH.cons (o := { dst := some 12, op := Op.call { callee := .value (.func 65), args := #[.tmp 10, .tmp 11], argTypes := #[37, 54] }, type := _, pos := _, after := _, guard := none }) rfl (fun K hK => ?_) AllReadyH.nil)
    go_simp
    refine (AD.out _ hHeld).mono ?_
    rintro e w3 ⟨rfl, hb3⟩
    have l3 : Hid (w0.heap.size ≤ w3.heap.size) := (bnext hHeld hb3).size
    refine hK.out _ _ ?_ (fun hHeld => ?_)
    · exact bnext hHeld hb3
    clear hK K
    try simp only [Act.put, List.setIfInBounds_toArray, List.set_cons_zero, List.set_cons_succ]
    refine wpAnyH_ready (rs := [13]) (by kernel_rfl) (by simp) (AllReadyH.cons (o := { dst := some 21, op := Op.call { callee := .value (.func 66), args := #[.tmp 9, .tmp 12, .tmp 17, .tmp 20], argTypes := #[35, 28, 28, 4] }, type := _, pos := _, after := _, guard := none }) rfl (fun K hK => ?_) AllReadyH.nil)
    go_simp
    refine (SV.out _ hHeld).mono ?_
    rintro e w4 ⟨g4, c4, rfl, g40, c40, r4, hb4⟩
    have l4 : Hid (w0.heap.size ≤ w4.heap.size) := (bnext hHeld hb4).size
    refine hK.out _ _ ?_ (fun hHeld => ?_)
    · exact bnext hHeld hb4
    clear hK K
    try simp only [Act.put, List.setIfInBounds_toArray, List.set_cons_zero, List.set_cons_succ]
    refine wpAnyH_take (i := 14) (v := .tuple #[memV s.wt (some ⟨g4, 0, none⟩) s.mn c4, .bool true]) rfl (by kernel_rfl) (by kernel_rfl) (by kernel_rfl) (fun _ _ _ h => h) (Or.inl ⟨by rfl, ?_⟩) (by assumption) ?_
    · intro w hSw; (try dsimp only at hSw); first | (go_simp; done) | (go_simp; with_reducible rfl)
    try simp only [Act.put, List.setIfInBounds_toArray, List.set_cons_zero, List.set_cons_succ]
    refine wpAnyH_take (i := 15) (v := memV s.wt (some ⟨g4, 0, none⟩) s.mn c4) rfl (by kernel_rfl) (by kernel_rfl) (by kernel_rfl) (fun _ _ _ h => h) (Or.inl ⟨by rfl, ?_⟩) (by assumption) ?_
    · intro w hSw; (try dsimp only at hSw); unfold memV; first | (go_simp; done) | (go_simp; with_reducible rfl)
    try simp only [Act.put, List.setIfInBounds_toArray, List.set_cons_zero, List.set_cons_succ]
    refine wpAnyH_take (i := 16) (v := .bool true) rfl (by kernel_rfl) (by kernel_rfl) (by kernel_rfl) (fun _ _ _ h => h) (Or.inl ⟨by rfl, ?_⟩) (by assumption) ?_
    · intro w hSw; (try dsimp only at hSw); first | (go_simp; done) | (go_simp; with_reducible rfl)
    try simp only [Act.put, List.setIfInBounds_toArray, List.set_cons_zero, List.set_cons_succ]
    have hl9 := hHeld.size
    have T4 := (there_later (there_later (b := w0.heap.size) (o := 0) (n := 2) (by intro j hj; (try simp at hj); rcases j with _ | _ | j <;> first | (simp [go_sem]; done) | omega) hb3) hb4)
    refine wpAnyH_ready (rs := [18]) (by kernel_rfl) (by simp) (AllReadyH.cons (o := { dst := none, op := Op.store 35 (.tmp 5) (.tmp 22), type := _, pos := _, after := _, guard := none }) rfl (fun K hK => ?_) AllReadyH.nil)
    rw [if_pos (by rfl)]
    refine wp_store_mid 35 (.tmp 5) (.tmp 22) rfl (w0.heap.size) 0 #[.int .i64 s.wt, .slice (some ⟨g4, 0, none⟩) s.mn c4] rfl rfl T4 mem_info2 (by simp [Value.oneCell']) ?_
    refine hK.out _ _ ?_ (fun hHeld => ?_)
    · exact below_setCells _ _ _ _ hHeld (Nat.le_refl _)
    clear hK K
    try simp only [Act.put, List.setIfInBounds_toArray, List.set_cons_zero, List.set_cons_succ]
    refine wpAnyH_take (i := 19) (v := .bool true) rfl (by kernel_rfl) (by kernel_rfl) (by kernel_rfl) (fun _ _ _ h => h) (Or.inl ⟨by rfl, ?_⟩) (by assumption) ?_
    · intro w hSw; (try dsimp only at hSw); first | (go_simp; done) | (go_simp; with_reducible rfl)
    try simp only [Act.put, List.setIfInBounds_toArray, List.set_cons_zero, List.set_cons_succ]
    refine wpAnyH_done (by kernel_rfl) ?_ _
    try simp only [Act.put, List.setIfInBounds_toArray, List.set_cons_zero, List.set_cons_succ]
    have ZZ : Hid ((w4.setCells (w0.heap.size) 0 #[.int .i64 s.wt, .slice (some ⟨g4, 0, none⟩) s.mn c4].toList).cell? ⟨w0.heap.size, 0, none⟩ = some (.int .i64 s.wt) ∧ (w4.setCells (w0.heap.size) 0 #[.int .i64 s.wt, .slice (some ⟨g4, 0, none⟩) s.mn c4].toList).cell? ⟨w0.heap.size, 1, none⟩ = some (.slice (some ⟨g4, 0, none⟩) s.mn c4)) := mem_set _ _ T4
    have B1 : Hid (Boxed w (w4.setCells (w0.heap.size) 0 #[.int .i64 s.wt, .slice (some ⟨g4, 0, none⟩) s.mn c4].toList) w.heap.size (w.heap.size + 2) C C s) := B0.out.later hHeld
    have G5 : Hid (w0.heap.size ≤ g4) := (by have h1 := hb3.size; have h2 := hb4.size; simp at h1; omega : w0.heap.size ≤ g4)
    have ne : w0.heap.size ≠ g4 := (by have h1 := hb3.size; simp at h1; omega)
    have RB : Hid (Bytes (w4.setCells (w0.heap.size) 0 #[.int .i64 s.wt, .slice (some ⟨g4, 0, none⟩) s.mn c4].toList) (some ⟨g4, 0, none⟩) s.mn (savedF s.mf (whereZ s b imm) (s.r a) true)) := rowB_bytes ((r4.far ne _ _).far ne _ _) SF.out
    have RF : Hid ((∀ q, (w4.setCells (w0.heap.size) 0 #[.int .i64 s.wt, .slice (some ⟨g4, 0, none⟩) s.mn c4].toList).frozen? ⟨g4, q, none⟩ = false) ∧ g4 < (w4.setCells (w0.heap.size) 0 #[.int .i64 s.wt, .slice (some ⟨g4, 0, none⟩) s.mn c4].toList).heap.size) := ((r4.far ne _ _).far ne _ _).2
    have C4 : Hid (s.mn ≤ c4) := c40
    clear g40 c40 r4 ne
    generalize w4.setCells (w0.heap.size) 0 #[.int .i64 s.wt, .slice (some ⟨g4, 0, none⟩) s.mn c4].toList = w5 at ZZ B1 RB RF ⊢
    clear hHeld hb3 hb4 T4 hl9
    generalize w0.heap.size = g5 at ZZ ⊢
    obtain ⟨z0, z1⟩ := id ZZ.out
    clear x18 x19 xa xa' y0 y1 y2 y3 y4 ZZ AD SV
    obtain ⟨-, -, x18, -⟩ := cell_st B1.out
    obtain ⟨_, _, _, _, _, _, _, _, ⟨-, x19, -⟩, -⟩ := list_st B1.out
    have f18 : w5.frozen? ⟨w.heap.size, 18, none⟩ = false := B1.out.fz 18
    have f19 : w5.frozen? ⟨w.heap.size, 19, none⟩ = false := B1.out.fz 19
    go_upto_region 5 with fail
    have B2 : Hid (Boxed w (w5.setCell ⟨w.heap.size, 18, none⟩ (.int .i64 s.wt)) w.heap.size (w.heap.size + 2) C (C.setIfInBounds 18 (.int .i64 s.wt)) s) := B1.out.put 18 (by omega) _ (fun g _ => off_int _ _ _) (put_wt B1.out.st s.wt)
    have B3 : Hid (Boxed w ((w5.setCell ⟨w.heap.size, 18, none⟩ (.int .i64 s.wt)).setCell ⟨w.heap.size, 19, none⟩ (.slice (some ⟨g4, 0, none⟩) s.mn c4)) w.heap.size (w.heap.size + 2) C ((C.setIfInBounds 18 (.int .i64 s.wt)).setIfInBounds 19 (.slice (some ⟨g4, 0, none⟩) s.mn c4)) { s with mf := savedF s.mf (whereZ s b imm) (s.r a) true }) :=
      B2.out.putMem g4 s.mn c4 (by have h1 := G5.out; have h2 := B0.out.bel.size; omega) (by have h1 := G5.out; have h2 := B0.out.hb.2.2.2.1; omega) (by have h1 := G5.out; have h2 := B0.out.hb.2.2.2.2; omega) (by simpa using RF.out.2) (fun q => by simpa using RF.out.1 q) (put_mem B2.out.st _ _ c4 _ ⟨⟨C4.out, fun e => by cases e⟩, by
        obtain ⟨e1, e2⟩ := RB.out
        exact ⟨e1, e2.imp id fun ⟨b', off', e3, e4⟩ => ⟨b', off', e3, fun i hi => by rw [World.cell?_setCell_other _ _ _ _ (fun e => by have h1 : w.heap.size = b' := congrArg Addr.block e; have h2 := G5.out; have h3 := B0.out.hb.2.2.2.1; simp only [Option.some.injEq, Addr.mk.injEq] at e3; omega)]; exact e4 i hi⟩⟩⟩)
    clear x18 x19 f18 f19 z0 z1 B1 B2 RB RF G5 C4 B0 I0
    generalize (w5.setCell ⟨w.heap.size, 18, none⟩ (.int .i64 s.wt)).setCell ⟨w.heap.size, 19, none⟩ (.slice (some ⟨g4, 0, none⟩) s.mn c4) = w6 at B3 ⊢
    generalize (C.setIfInBounds 18 (.int .i64 s.wt)).setIfInBounds 19 (.slice (some ⟨g4, 0, none⟩) s.mn c4) = C3 at B3
    go_wp2_with (first
      | (go_at_call 57; refine (lead_st B3.out.st hat 0 (by omega)).mono ?_; rintro e w9 ⟨C9, rfl, h9, v9, b9⟩)
      | ((with_reducible show wpList _ _ _ (Oper.mk _ (Op.load _ _) _ _ _ _ :: _) _ _); refine wpList_load_if (by rfl) 37 (.tmp 2) rfl w.heap.size 0 rfl C3.toList _ (at_range B3.out.at_) Tryd.underlying37 rfl (st_info B3.out.st).2 ?_)
      | ((with_reducible show wpList _ _ _ (Oper.mk _ (Op.store _ _ _) _ _ _ _ :: _) _ _); refine wpList_store_room (w := w) rfl (.tmp 4) (.tmp 31) rfl (w.heap.size + 2) C9 rfl rfl h9 (there_later B3.out.room b9) ?_))
    have TT := Told.call B3.out b9 h9 v9
    exact bodyPost_ret (v := .agg C9) (results_st rfl _ (w.heap.size + 2) (by first | rfl | simp) TT.st _ TT.at_) rfl TT.post
set_option maxRecDepth 100000 in
set_option maxHeartbeats 2000000 in
theorem savew_no {w : World} {C : Array Value} {s : St} (h : IsSt w (.agg C) s) (hs : Small s) (a b : Nat) (c imm : Int) (ha : a < 16) (hb : b < 16) (hi : -1073741824 ≤ imm ∧ imm ≤ 1073741824) (ho : saveB s.mn (whereZ s b imm) true s.wt = false) :
    Calls Tryd.prog 53 #[.agg C, .agg (#[.int .i64 12, .int .i64 a, .int .i64 b, .int .i64 c, .int .i64 imm])] w (StPost w C (s.stop 4)) := by
  obtain ⟨⟨hr0, hr⟩, hat, hl, hwt, -⟩ := hs
  have B0 : Hid (Boxed w (((w.alloc (.cells C 37)).alloc (.cells #[.int .i64 12, .int .i64 a, .int .i64 b, .int .i64 c, .int .i64 imm] 54)).alloc (.cells noSt 37)) w.heap.size (w.heap.size + 2) C C s) := Boxed.new3 h _ _ _ _
  have I0 : Hid (InsAt (((w.alloc (.cells C 37)).alloc (.cells #[.int .i64 12, .int .i64 a, .int .i64 b, .int .i64 c, .int .i64 imm] 54)).alloc (.cells noSt 37)) (w.heap.size + 1) 12 a b c imm) := ins_new3 _ _ _ _ _ _ _ _ _ _ _
  clear h
  go_enter Tryd.func53, Tryd.ntmps53
  go_upto_region 1 with fail
  rw [noSt_def]
  generalize ((w.alloc (.cells C 37)).alloc (.cells #[.int .i64 12, .int .i64 a, .int .i64 b, .int .i64 c, .int .i64 imm] 54)).alloc (.cells noSt 37) = w0 at B0 I0 ⊢
  obtain ⟨y0, y1, y2, y3, y4⟩ := id I0.out
  have xa := (cell_st B0.out).2.1 a ha
  have xa' : w0.cell? ⟨w.heap.size, a + 1, none⟩ = some (.int .u32 (s.r a)) := by rw [Nat.add_comm]; exact xa
  have ha' : (a : Int) < 16 := by omega
  obtain ⟨-, -, x18, -⟩ := cell_st B0.out
  obtain ⟨ba, bc, ma, mc, ia, ic, oa, oc, ⟨-, x19, -⟩, -, hd, -⟩ := list_st B0.out
  have AD : Hid (∀ W, Below w0.heap.size w0 W → Calls Tryd.prog 65 #[.agg C, .agg (#[.int .i64 12, .int .i64 a, .int .i64 b, .int .i64 c, .int .i64 imm])] W fun e w' => e = .returned (.int .u32 (whereZ s b imm)) ∧ Below W.heap.size W w') := fun W hW => address_any (B0.out.later hW).st hr 12 a b c imm hb hi
  have hw0 : 0 ≤ whereZ s b imm ∧ whereZ s b imm < 4294967296 := by unfold whereZ; omega
  have SV : Hid (∀ W, Below w0.heap.size w0 W → Calls Tryd.prog 66 #[memV s.wt ma s.mn mc, .int .u32 (whereZ s b imm), .int .u32 (s.r a), .bool true] W fun e w' => e = .returned (.tuple #[memV s.wt ma s.mn mc, .bool false]) ∧ Below W.heap.size W w') := fun W hW => save_no s.wt (whereZ s b imm) (s.r a) true ma s.mn mc s.mf W (by omega) hd.1.1 hwt hw0.1 hw0.2 (hd.2.later hW) ho
  clear hd ho hwt
  go_upto_region 1 with fail
  refine wp_region_held_drew (S := fun w' => Below w0.heap.size w0 w') (by kernel_rfl) ?_ (fun hHeld => ?_)
  · exact (Below.refl _ _).drew
  refine wpAnyH_take (i := 0) (v := ?_) rfl (by kernel_rfl) (by kernel_rfl) (by kernel_rfl) (fun _ _ _ h => h) (Or.inl ⟨by rfl, ?_⟩) (by assumption) ?_
  rotate_left
  · intro w hSw; (try dsimp only at hSw); first | (go_simp; done) | (go_simp; with_reducible rfl)
  try simp only [Act.put, List.setIfInBounds_toArray, List.set_cons_zero, List.set_cons_succ]
  refine wpAnyH_take (i := 1) (v := memV s.wt ma s.mn mc) rfl (by kernel_rfl) (by kernel_rfl) (by kernel_rfl) (fun _ _ _ h => h) (Or.inl ⟨by rfl, ?_⟩) (by assumption) ?_
  · intro w hSw; (try dsimp only at hSw); unfold memV; have f0 := cell_later' x18 hSw; have f1 := cell_later' x19 hSw; first | (go_simp; done) | (go_simp; with_reducible rfl)
  try simp only [Act.put, List.setIfInBounds_toArray, List.set_cons_zero, List.set_cons_succ]
  refine wpAnyH_take (i := 2) (oi := { dst := some 10, op := Op.load 37 (.tmp 2), type := _, pos := _, after := _, guard := none }) (v := .agg C) rfl (by kernel_rfl) (by kernel_rfl) (by kernel_rfl) (fun _ _ _ h => h) (yields_st (by rfl) (.tmp 2) rfl (w.heap.size) rfl B0.out.st (fun w hw => (B0.out.at_).later hw)) (by assumption) ?_
  try simp only [Act.put, List.setIfInBounds_toArray, List.set_cons_zero, List.set_cons_succ]
  refine wpAnyH_take (i := 3) (v := .agg #[.int .i64 12, .int .i64 a, .int .i64 b, .int .i64 c, .int .i64 imm]) rfl (by kernel_rfl) (by kernel_rfl) (by kernel_rfl) (fun _ _ _ h => h) (Or.inl ⟨by rfl, ?_⟩) (by assumption) ?_
  · intro w hSw; (try dsimp only at hSw); have f0 := cell_later' y0 hSw; have f1 := cell_later' y1 hSw; have f2 := cell_later' y2 hSw; have f3 := cell_later' y3 hSw; have f4 := cell_later' y4 hSw; first | (go_simp; done) | (go_simp; with_reducible rfl)
  try simp only [Act.put, List.setIfInBounds_toArray, List.set_cons_zero, List.set_cons_succ]
  refine wpAnyH_take (i := 5) (v := ?_) rfl (by kernel_rfl) (by kernel_rfl) (by kernel_rfl) (fun _ _ _ h => h) (Or.inl ⟨by rfl, ?_⟩) (by assumption) ?_
  rotate_left
  · intro w hSw; (try dsimp only at hSw); first | (go_simp; done) | (go_simp; with_reducible rfl)
  try simp only [Act.put, List.setIfInBounds_toArray, List.set_cons_zero, List.set_cons_succ]
  refine wpAnyH_take (i := 6) (v := .int .i64 a) rfl (by kernel_rfl) (by kernel_rfl) (by kernel_rfl) (fun _ _ _ h => h) (Or.inl ⟨by rfl, ?_⟩) (by assumption) ?_
  · intro w hSw; (try dsimp only at hSw); have f0 := cell_later' y0 hSw; have f1 := cell_later' y1 hSw; have f2 := cell_later' y2 hSw; have f3 := cell_later' y3 hSw; have f4 := cell_later' y4 hSw; first | (go_simp; done) | (go_simp; with_reducible rfl)
  try simp only [Act.put, List.setIfInBounds_toArray, List.set_cons_zero, List.set_cons_succ]
  refine wpAnyH_take (i := 7) (v := ?_) rfl (by kernel_rfl) (by kernel_rfl) (by kernel_rfl) (fun _ _ _ h => h) (Or.inl ⟨by rfl, ?_⟩) (by assumption) ?_
  rotate_left
  · intro w hSw; (try dsimp only at hSw); first | (go_simp; done) | (go_simp; with_reducible rfl)
  try simp only [Act.put, List.setIfInBounds_toArray, List.set_cons_zero, List.set_cons_succ]
  refine wpAnyH_take (i := 8) (v := ?_) rfl (by kernel_rfl) (by kernel_rfl) (by kernel_rfl) (fun _ _ _ h => h) (Or.inl ⟨by rfl, ?_⟩) (by assumption) ?_
  rotate_left
  · intro w hSw; (try dsimp only at hSw); first | (go_simp; done) | (go_simp; with_reducible rfl)
  try simp only [Act.put, List.setIfInBounds_toArray, List.set_cons_zero, List.set_cons_succ]
  refine wpAnyH_take (i := 9) (v := .int .u32 (s.r a)) rfl (by kernel_rfl) (by kernel_rfl) (by kernel_rfl) (fun _ _ _ h => h) (Or.inl ⟨by rfl, ?_⟩) (by assumption) ?_
  · intro w hSw; (try dsimp only at hSw); have f5 := cell_later' xa hSw; have f6 := cell_later' xa' hSw; first | (go_simp; done) | (go_simp; with_reducible rfl)
  try simp only [Act.put, List.setIfInBounds_toArray, List.set_cons_zero, List.set_cons_succ]
  refine wpAnyH_take (i := 10) (v := ?_) rfl (by kernel_rfl) (by kernel_rfl) (by kernel_rfl) (fun _ _ _ h => h) (Or.inl ⟨by rfl, ?_⟩) (by assumption) ?_
  rotate_left
  · intro w hSw; (try dsimp only at hSw); first | (go_simp; done) | (go_simp; with_reducible rfl)
  try simp only [Act.put, List.setIfInBounds_toArray, List.set_cons_zero, List.set_cons_succ]
  refine wpAnyH_take (i := 11) (v := .int .i64 12) rfl (by kernel_rfl) (by kernel_rfl) (by kernel_rfl) (fun _ _ _ h => h) (Or.inl ⟨by rfl, ?_⟩) (by assumption) ?_
  · intro w hSw; (try dsimp only at hSw); have f0 := cell_later' y0 hSw; have f1 := cell_later' y1 hSw; have f2 := cell_later' y2 hSw; have f3 := cell_later' y3 hSw; have f4 := cell_later' y4 hSw; first | (go_simp; done) | (go_simp; with_reducible rfl)
  try simp only [Act.put, List.setIfInBounds_toArray, List.set_cons_zero, List.set_cons_succ]
  refine wpAnyH_take (i := 12) (v := .bool true) rfl (by kernel_rfl) (by kernel_rfl) (by kernel_rfl) (fun _ _ _ h => h) (Or.inl ⟨by rfl, ?_⟩) (by assumption) ?_
  · intro w hSw; (try dsimp only at hSw); first | (go_simp; done) | (go_simp; with_reducible rfl)
  try simp only [Act.put, List.setIfInBounds_toArray, List.set_cons_zero, List.set_cons_succ]
  refine wpAnyH_ready (rs := [4, 17]) (by kernel_rfl) (by simp) (AllReadyH.cons (o := { dst := some 12, op := Op.call { callee := .value (.func 65), args := #[.tmp 10, .tmp 11], argTypes := #[37, 54] }, type := _, pos := _, after := _, guard := none }) rfl (fun K hK => ?_) (AllReadyH.cons (o := { dst := some 5, op := Op.alloc 35, type := _, pos := _, after := _, guard := none }) rfl (fun K hK => ?_) AllReadyH.nil))
  · go_simp
    refine (AD.out _ hHeld).mono ?_
    rintro e w3 ⟨rfl, hb3⟩
    have l3 : Hid (w0.heap.size ≤ w3.heap.size) := (bnext hHeld hb3).size
    refine hK.out _ _ ?_ (fun hHeld => ?_)
    · exact bnext hHeld hb3
    clear hK K
    try simp only [Act.put, List.setIfInBounds_toArray, List.set_cons_zero, List.set_cons_succ]
    refine wpAnyH_ready (rs := [13, 17]) (by kernel_rfl) (by simp) (AllReadyH.cons (o := { dst := some 21, op := Op.call { callee := .value (.func 66), args := #[.tmp 9, .tmp 12, .tmp 17, .tmp 20], argTypes := #[35, 28, 28, 4] }, type := _, pos := _, after := _, guard := none }) rfl (fun K hK => ?_) (AllReadyH.cons (o := { dst := some 5, op := Op.alloc 35, type := _, pos := _, after := _, guard := none }) rfl (fun K hK => ?_) AllReadyH.nil))
    · go_simp
      refine (SV.out _ hHeld).mono ?_
      rintro e w4 ⟨rfl, hb4⟩
      have l4 : Hid (w0.heap.size ≤ w4.heap.size) := (bnext hHeld hb4).size
      refine hK.out _ _ ?_ (fun hHeld => ?_)
      · exact bnext hHeld hb4
      clear hK K
      try simp only [Act.put, List.setIfInBounds_toArray, List.set_cons_zero, List.set_cons_succ]
      refine wpAnyH_take (i := 14) (v := .tuple #[memV s.wt ma s.mn mc, .bool false]) rfl (by kernel_rfl) (by kernel_rfl) (by kernel_rfl) (fun _ _ _ h => h) (Or.inl ⟨by rfl, ?_⟩) (by assumption) ?_
      · intro w hSw; (try dsimp only at hSw); first | (go_simp; done) | (go_simp; with_reducible rfl)
      try simp only [Act.put, List.setIfInBounds_toArray, List.set_cons_zero, List.set_cons_succ]
      refine wpAnyH_take (i := 15) (v := memV s.wt ma s.mn mc) rfl (by kernel_rfl) (by kernel_rfl) (by kernel_rfl) (fun _ _ _ h => h) (Or.inl ⟨by rfl, ?_⟩) (by assumption) ?_
      · intro w hSw; (try dsimp only at hSw); unfold memV; first | (go_simp; done) | (go_simp; with_reducible rfl)
      try simp only [Act.put, List.setIfInBounds_toArray, List.set_cons_zero, List.set_cons_succ]
      refine wpAnyH_take (i := 16) (v := .bool false) rfl (by kernel_rfl) (by kernel_rfl) (by kernel_rfl) (fun _ _ _ h => h) (Or.inl ⟨by rfl, ?_⟩) (by assumption) ?_
      · intro w hSw; (try dsimp only at hSw); first | (go_simp; done) | (go_simp; with_reducible rfl)
      try simp only [Act.put, List.setIfInBounds_toArray, List.set_cons_zero, List.set_cons_succ]
      refine wpAnyH_ready (rs := [17]) (by kernel_rfl) (by simp) (AllReadyH.cons (o := { dst := some 5, op := Op.alloc 35, type := _, pos := _, after := _, guard := none }) rfl (fun K hK => ?_) AllReadyH.nil)
      go_simp
      refine hK.out _ _ ?_ (fun hHeld => ?_)
      · exact by repeat (first | exact hHeld | exact Below.refl _ _ | refine keep_alloc ?_ _ | refine keep_drew ?_ | exact (Below.refl _ _).drew)
      clear hK K
      try simp only [Act.put, List.setIfInBounds_toArray, List.set_cons_zero, List.set_cons_succ]
      have hl9 := hHeld.size
      have hl4 : w0.heap.size ≤ w4.heap.size := l4.out
      refine wpAnyH_ready (rs := [18]) (by kernel_rfl) (by simp) (AllReadyH.cons (o := { dst := none, op := Op.store 35 (.tmp 5) (.tmp 22), type := _, pos := _, after := _, guard := none }) rfl (fun K hK => ?_) AllReadyH.nil)
      rw [if_pos (by rfl)]
      refine wp_store_mid 35 (.tmp 5) (.tmp 22) rfl (w4.heap.size) 0 #[.int .i64 s.wt, .slice ma s.mn mc] rfl rfl (by intro j hj; (try simp at hj); rcases j with _ | _ | j <;> first | (simp [go_sem]; done) | omega) mem_info2 (by simp [Value.oneCell']) ?_
      refine hK.out _ _ ?_ (fun hHeld => ?_)
      · exact below_setCells _ _ _ _ hHeld (by have := hl4; omega)
      clear hK K
      try simp only [Act.put, List.setIfInBounds_toArray, List.set_cons_zero, List.set_cons_succ]
      refine wpAnyH_take (i := 19) (v := .bool false) rfl (by kernel_rfl) (by kernel_rfl) (by kernel_rfl) (fun _ _ _ h => h) (Or.inl ⟨by rfl, ?_⟩) (by assumption) ?_
      · intro w hSw; (try dsimp only at hSw); first | (go_simp; done) | (go_simp; with_reducible rfl)
      try simp only [Act.put, List.setIfInBounds_toArray, List.set_cons_zero, List.set_cons_succ]
      refine wpAnyH_done (by kernel_rfl) ?_ _
      try simp only [Act.put, List.setIfInBounds_toArray, List.set_cons_zero, List.set_cons_succ]
      have T4 : (w4.alloc (.cells #[.int .i64 0, .slice none 0 0] 35)).there w4.heap.size 0 2 := (by intro j hj; (try simp at hj); rcases j with _ | _ | j <;> first | (simp [go_sem]; done) | omega)
      have ZZ : Hid (((w4.alloc (.cells #[.int .i64 0, .slice none 0 0] 35)).setCells (w4.heap.size) 0 #[.int .i64 s.wt, .slice ma s.mn mc].toList).cell? ⟨w4.heap.size, 0, none⟩ = some (.int .i64 s.wt) ∧ ((w4.alloc (.cells #[.int .i64 0, .slice none 0 0] 35)).setCells (w4.heap.size) 0 #[.int .i64 s.wt, .slice ma s.mn mc].toList).cell? ⟨w4.heap.size, 1, none⟩ = some (.slice ma s.mn mc)) := mem_set _ _ T4
      have B1 : Hid (Boxed w ((w4.alloc (.cells #[.int .i64 0, .slice none 0 0] 35)).setCells (w4.heap.size) 0 #[.int .i64 s.wt, .slice ma s.mn mc].toList) w.heap.size (w.heap.size + 2) C C s) := B0.out.later hHeld
      generalize (w4.alloc (.cells #[.int .i64 0, .slice none 0 0] 35)).setCells (w4.heap.size) 0 #[.int .i64 s.wt, .slice ma s.mn mc].toList = w5 at ZZ B1 ⊢
      clear hHeld hb3 hb4 T4 hl9 hl4
      generalize w4.heap.size = g5 at ZZ ⊢
      obtain ⟨z0, z1⟩ := id ZZ.out
      clear x18 x19 xa xa' y0 y1 y2 y3 y4 ZZ AD SV
      go_wp2_with (first
        | (go_at_call 51; refine (fault_st B1.out.st 4).mono ?_; rintro e w9 ⟨C9, rfl, h9, v9, b9⟩)
        | ((with_reducible show wpList _ _ _ (Oper.mk _ (Op.load _ _) _ _ _ _ :: _) _ _); refine wpList_load_if (by rfl) 37 (.tmp 2) rfl w.heap.size 0 rfl C.toList _ (at_range B1.out.at_) Tryd.underlying37 rfl (st_info B1.out.st).2 ?_)
        | ((with_reducible show wpList _ _ _ (Oper.mk _ (Op.store _ _ _) _ _ _ _ :: _) _ _); refine wpList_store_room (w := w) rfl (.tmp 4) (.tmp 27) rfl (w.heap.size + 2) C9 rfl rfl h9 (there_later B1.out.room b9) ?_))
      have TT := Told.call B1.out b9 h9 v9
      exact bodyPost_ret (v := .agg C9) (results_st rfl _ (w.heap.size + 2) (by first | rfl | simp) TT.st _ TT.at_) rfl TT.post
    · go_simp
      refine hK.out _ _ ?_ (fun hHeld => ?_)
      · exact by repeat (first | exact hHeld | exact Below.refl _ _ | refine keep_alloc ?_ _ | refine keep_drew ?_ | exact (Below.refl _ _).drew)
      clear hK K
      try simp only [Act.put, List.setIfInBounds_toArray, List.set_cons_zero, List.set_cons_succ]
      refine wpAnyH_ready (rs := [13]) (by kernel_rfl) (by simp) (AllReadyH.cons (o := { dst := some 21, op := Op.call { callee := .value (.func 66), args := #[.tmp 9, .tmp 12, .tmp 17, .tmp 20], argTypes := #[35, 28, 28, 4] }, type := _, pos := _, after := _, guard := none }) rfl (fun K hK => ?_) AllReadyH.nil)
      go_simp
      refine (SV.out _ hHeld).mono ?_
      rintro e w4 ⟨rfl, hb4⟩
      have l4 : Hid (w0.heap.size ≤ w4.heap.size) := (bnext hHeld hb4).size
      refine hK.out _ _ ?_ (fun hHeld => ?_)
      · exact bnext hHeld hb4
      clear hK K
      try simp only [Act.put, List.setIfInBounds_toArray, List.set_cons_zero, List.set_cons_succ]
      refine wpAnyH_take (i := 14) (v := .tuple #[memV s.wt ma s.mn mc, .bool false]) rfl (by kernel_rfl) (by kernel_rfl) (by kernel_rfl) (fun _ _ _ h => h) (Or.inl ⟨by rfl, ?_⟩) (by assumption) ?_
      · intro w hSw; (try dsimp only at hSw); first | (go_simp; done) | (go_simp; with_reducible rfl)
      try simp only [Act.put, List.setIfInBounds_toArray, List.set_cons_zero, List.set_cons_succ]
      refine wpAnyH_take (i := 15) (v := memV s.wt ma s.mn mc) rfl (by kernel_rfl) (by kernel_rfl) (by kernel_rfl) (fun _ _ _ h => h) (Or.inl ⟨by rfl, ?_⟩) (by assumption) ?_
      · intro w hSw; (try dsimp only at hSw); unfold memV; first | (go_simp; done) | (go_simp; with_reducible rfl)
      try simp only [Act.put, List.setIfInBounds_toArray, List.set_cons_zero, List.set_cons_succ]
      refine wpAnyH_take (i := 16) (v := .bool false) rfl (by kernel_rfl) (by kernel_rfl) (by kernel_rfl) (fun _ _ _ h => h) (Or.inl ⟨by rfl, ?_⟩) (by assumption) ?_
      · intro w hSw; (try dsimp only at hSw); first | (go_simp; done) | (go_simp; with_reducible rfl)
      try simp only [Act.put, List.setIfInBounds_toArray, List.set_cons_zero, List.set_cons_succ]
      have hl9 := hHeld.size
      have T4 := (there_later (b := w3.heap.size) (o := 0) (n := 2) (by intro j hj; (try simp at hj); rcases j with _ | _ | j <;> first | (simp [go_sem]; done) | omega) hb4)
      have hl3 : w0.heap.size ≤ w3.heap.size := l3.out
      refine wpAnyH_ready (rs := [18]) (by kernel_rfl) (by simp) (AllReadyH.cons (o := { dst := none, op := Op.store 35 (.tmp 5) (.tmp 22), type := _, pos := _, after := _, guard := none }) rfl (fun K hK => ?_) AllReadyH.nil)
      rw [if_pos (by rfl)]
      refine wp_store_mid 35 (.tmp 5) (.tmp 22) rfl (w3.heap.size) 0 #[.int .i64 s.wt, .slice ma s.mn mc] rfl rfl T4 mem_info2 (by simp [Value.oneCell']) ?_
      refine hK.out _ _ ?_ (fun hHeld => ?_)
      · exact below_setCells _ _ _ _ hHeld (by have := hl3; omega)
      clear hK K
      try simp only [Act.put, List.setIfInBounds_toArray, List.set_cons_zero, List.set_cons_succ]
      refine wpAnyH_take (i := 19) (v := .bool false) rfl (by kernel_rfl) (by kernel_rfl) (by kernel_rfl) (fun _ _ _ h => h) (Or.inl ⟨by rfl, ?_⟩) (by assumption) ?_
      · intro w hSw; (try dsimp only at hSw); first | (go_simp; done) | (go_simp; with_reducible rfl)
      try simp only [Act.put, List.setIfInBounds_toArray, List.set_cons_zero, List.set_cons_succ]
      refine wpAnyH_done (by kernel_rfl) ?_ _
      try simp only [Act.put, List.setIfInBounds_toArray, List.set_cons_zero, List.set_cons_succ]
      have ZZ : Hid ((w4.setCells (w3.heap.size) 0 #[.int .i64 s.wt, .slice ma s.mn mc].toList).cell? ⟨w3.heap.size, 0, none⟩ = some (.int .i64 s.wt) ∧ (w4.setCells (w3.heap.size) 0 #[.int .i64 s.wt, .slice ma s.mn mc].toList).cell? ⟨w3.heap.size, 1, none⟩ = some (.slice ma s.mn mc)) := mem_set _ _ T4
      have B1 : Hid (Boxed w (w4.setCells (w3.heap.size) 0 #[.int .i64 s.wt, .slice ma s.mn mc].toList) w.heap.size (w.heap.size + 2) C C s) := B0.out.later hHeld
      generalize w4.setCells (w3.heap.size) 0 #[.int .i64 s.wt, .slice ma s.mn mc].toList = w5 at ZZ B1 ⊢
      clear hHeld hb3 hb4 T4 hl9 hl3
      generalize w3.heap.size = g5 at ZZ ⊢
      obtain ⟨z0, z1⟩ := id ZZ.out
      clear x18 x19 xa xa' y0 y1 y2 y3 y4 ZZ AD SV
      go_wp2_with (first
        | (go_at_call 51; refine (fault_st B1.out.st 4).mono ?_; rintro e w9 ⟨C9, rfl, h9, v9, b9⟩)
        | ((with_reducible show wpList _ _ _ (Oper.mk _ (Op.load _ _) _ _ _ _ :: _) _ _); refine wpList_load_if (by rfl) 37 (.tmp 2) rfl w.heap.size 0 rfl C.toList _ (at_range B1.out.at_) Tryd.underlying37 rfl (st_info B1.out.st).2 ?_)
        | ((with_reducible show wpList _ _ _ (Oper.mk _ (Op.store _ _ _) _ _ _ _ :: _) _ _); refine wpList_store_room (w := w) rfl (.tmp 4) (.tmp 27) rfl (w.heap.size + 2) C9 rfl rfl h9 (there_later B1.out.room b9) ?_))
      have TT := Told.call B1.out b9 h9 v9
      exact bodyPost_ret (v := .agg C9) (results_st rfl _ (w.heap.size + 2) (by first | rfl | simp) TT.st _ TT.at_) rfl TT.post
  · go_simp
    refine hK.out _ _ ?_ (fun hHeld => ?_)
    · exact by repeat (first | exact hHeld | exact Below.refl _ _ | refine keep_alloc ?_ _ | refine keep_drew ?_ | exact (Below.refl _ _).drew)
    clear hK K
    try simp only [Act.put, List.setIfInBounds_toArray, List.set_cons_zero, List.set_cons_succ]
    refine wpAnyH_ready (rs := [4]) (by kernel_rfl) (by simp) (AllReadyH.cons (o := { dst := some 12, op := Op.call { callee := .value (.func 65), args := #[.tmp 10, .tmp 11], argTypes := #[37, 54] }, type := _, pos := _, after := _, guard := none }) rfl (fun K hK => ?_) AllReadyH.nil)
    go_simp
    refine (AD.out _ hHeld).mono ?_
    rintro e w3 ⟨rfl, hb3⟩
    have l3 : Hid (w0.heap.size ≤ w3.heap.size) := (bnext hHeld hb3).size
    refine hK.out _ _ ?_ (fun hHeld => ?_)
    · exact bnext hHeld hb3
    clear hK K
    try simp only [Act.put, List.setIfInBounds_toArray, List.set_cons_zero, List.set_cons_succ]
    refine wpAnyH_ready (rs := [13]) (by kernel_rfl) (by simp) (AllReadyH.cons (o := { dst := some 21, op := Op.call { callee := .value (.func 66), args := #[.tmp 9, .tmp 12, .tmp 17, .tmp 20], argTypes := #[35, 28, 28, 4] }, type := _, pos := _, after := _, guard := none }) rfl (fun K hK => ?_) AllReadyH.nil)
    go_simp
    refine (SV.out _ hHeld).mono ?_
    rintro e w4 ⟨rfl, hb4⟩
    have l4 : Hid (w0.heap.size ≤ w4.heap.size) := (bnext hHeld hb4).size
    refine hK.out _ _ ?_ (fun hHeld => ?_)
    · exact bnext hHeld hb4
    clear hK K
    try simp only [Act.put, List.setIfInBounds_toArray, List.set_cons_zero, List.set_cons_succ]
    refine wpAnyH_take (i := 14) (v := .tuple #[memV s.wt ma s.mn mc, .bool false]) rfl (by kernel_rfl) (by kernel_rfl) (by kernel_rfl) (fun _ _ _ h => h) (Or.inl ⟨by rfl, ?_⟩) (by assumption) ?_
    · intro w hSw; (try dsimp only at hSw); first | (go_simp; done) | (go_simp; with_reducible rfl)
    try simp only [Act.put, List.setIfInBounds_toArray, List.set_cons_zero, List.set_cons_succ]
    refine wpAnyH_take (i := 15) (v := memV s.wt ma s.mn mc) rfl (by kernel_rfl) (by kernel_rfl) (by kernel_rfl) (fun _ _ _ h => h) (Or.inl ⟨by rfl, ?_⟩) (by assumption) ?_
    · intro w hSw; (try dsimp only at hSw); unfold memV; first | (go_simp; done) | (go_simp; with_reducible rfl)
    try simp only [Act.put, List.setIfInBounds_toArray, List.set_cons_zero, List.set_cons_succ]
    refine wpAnyH_take (i := 16) (v := .bool false) rfl (by kernel_rfl) (by kernel_rfl) (by kernel_rfl) (fun _ _ _ h => h) (Or.inl ⟨by rfl, ?_⟩) (by assumption) ?_
    · intro w hSw; (try dsimp only at hSw); first | (go_simp; done) | (go_simp; with_reducible rfl)
    try simp only [Act.put, List.setIfInBounds_toArray, List.set_cons_zero, List.set_cons_succ]
    have hl9 := hHeld.size
    have T4 := (there_later (there_later (b := w0.heap.size) (o := 0) (n := 2) (by intro j hj; (try simp at hj); rcases j with _ | _ | j <;> first | (simp [go_sem]; done) | omega) hb3) hb4)
    refine wpAnyH_ready (rs := [18]) (by kernel_rfl) (by simp) (AllReadyH.cons (o := { dst := none, op := Op.store 35 (.tmp 5) (.tmp 22), type := _, pos := _, after := _, guard := none }) rfl (fun K hK => ?_) AllReadyH.nil)
    rw [if_pos (by rfl)]
    refine wp_store_mid 35 (.tmp 5) (.tmp 22) rfl (w0.heap.size) 0 #[.int .i64 s.wt, .slice ma s.mn mc] rfl rfl T4 mem_info2 (by simp [Value.oneCell']) ?_
    refine hK.out _ _ ?_ (fun hHeld => ?_)
    · exact below_setCells _ _ _ _ hHeld (Nat.le_refl _)
    clear hK K
    try simp only [Act.put, List.setIfInBounds_toArray, List.set_cons_zero, List.set_cons_succ]
    refine wpAnyH_take (i := 19) (v := .bool false) rfl (by kernel_rfl) (by kernel_rfl) (by kernel_rfl) (fun _ _ _ h => h) (Or.inl ⟨by rfl, ?_⟩) (by assumption) ?_
    · intro w hSw; (try dsimp only at hSw); first | (go_simp; done) | (go_simp; with_reducible rfl)
    try simp only [Act.put, List.setIfInBounds_toArray, List.set_cons_zero, List.set_cons_succ]
    refine wpAnyH_done (by kernel_rfl) ?_ _
    try simp only [Act.put, List.setIfInBounds_toArray, List.set_cons_zero, List.set_cons_succ]
    have ZZ : Hid ((w4.setCells (w0.heap.size) 0 #[.int .i64 s.wt, .slice ma s.mn mc].toList).cell? ⟨w0.heap.size, 0, none⟩ = some (.int .i64 s.wt) ∧ (w4.setCells (w0.heap.size) 0 #[.int .i64 s.wt, .slice ma s.mn mc].toList).cell? ⟨w0.heap.size, 1, none⟩ = some (.slice ma s.mn mc)) := mem_set _ _ T4
    have B1 : Hid (Boxed w (w4.setCells (w0.heap.size) 0 #[.int .i64 s.wt, .slice ma s.mn mc].toList) w.heap.size (w.heap.size + 2) C C s) := B0.out.later hHeld
    generalize w4.setCells (w0.heap.size) 0 #[.int .i64 s.wt, .slice ma s.mn mc].toList = w5 at ZZ B1 ⊢
    clear hHeld hb3 hb4 T4 hl9
    generalize w0.heap.size = g5 at ZZ ⊢
    obtain ⟨z0, z1⟩ := id ZZ.out
    clear x18 x19 xa xa' y0 y1 y2 y3 y4 ZZ AD SV
    go_wp2_with (first
      | (go_at_call 51; refine (fault_st B1.out.st 4).mono ?_; rintro e w9 ⟨C9, rfl, h9, v9, b9⟩)
      | ((with_reducible show wpList _ _ _ (Oper.mk _ (Op.load _ _) _ _ _ _ :: _) _ _); refine wpList_load_if (by rfl) 37 (.tmp 2) rfl w.heap.size 0 rfl C.toList _ (at_range B1.out.at_) Tryd.underlying37 rfl (st_info B1.out.st).2 ?_)
      | ((with_reducible show wpList _ _ _ (Oper.mk _ (Op.store _ _ _) _ _ _ _ :: _) _ _); refine wpList_store_room (w := w) rfl (.tmp 4) (.tmp 27) rfl (w.heap.size + 2) C9 rfl rfl h9 (there_later B1.out.room b9) ?_))
    have TT := Told.call B1.out b9 h9 v9
    exact bodyPost_ret (v := .agg C9) (results_st rfl _ (w.heap.size + 2) (by first | rfl | simp) TT.st _ TT.at_) rfl TT.post
set_option maxRecDepth 100000 in
set_option maxHeartbeats 2000000 in
theorem saveb_yes {w : World} {C : Array Value} {s : St} (h : IsSt w (.agg C) s) (hs : Small s) (a b : Nat) (c imm : Int) (ha : a < 16) (hb : b < 16) (hi : -1073741824 ≤ imm ∧ imm ≤ 1073741824) (ho : saveB s.mn (whereZ s b imm) false s.wt = true) :
    Calls Tryd.prog 53 #[.agg C, .agg (#[.int .i64 14, .int .i64 a, .int .i64 b, .int .i64 c, .int .i64 imm])] w (StPost w C ({ s with mf := savedF s.mf (whereZ s b imm) (s.r a) false, at_ := s.at_ + 1 + 0 })) := by
  obtain ⟨⟨hr0, hr⟩, hat, hl, hwt, -⟩ := hs
  have B0 : Hid (Boxed w (((w.alloc (.cells C 37)).alloc (.cells #[.int .i64 14, .int .i64 a, .int .i64 b, .int .i64 c, .int .i64 imm] 54)).alloc (.cells noSt 37)) w.heap.size (w.heap.size + 2) C C s) := Boxed.new3 h _ _ _ _
  have I0 : Hid (InsAt (((w.alloc (.cells C 37)).alloc (.cells #[.int .i64 14, .int .i64 a, .int .i64 b, .int .i64 c, .int .i64 imm] 54)).alloc (.cells noSt 37)) (w.heap.size + 1) 14 a b c imm) := ins_new3 _ _ _ _ _ _ _ _ _ _ _
  clear h
  go_enter Tryd.func53, Tryd.ntmps53
  go_upto_region 1 with fail
  rw [noSt_def]
  generalize ((w.alloc (.cells C 37)).alloc (.cells #[.int .i64 14, .int .i64 a, .int .i64 b, .int .i64 c, .int .i64 imm] 54)).alloc (.cells noSt 37) = w0 at B0 I0 ⊢
  obtain ⟨y0, y1, y2, y3, y4⟩ := id I0.out
  have xa := (cell_st B0.out).2.1 a ha
  have xa' : w0.cell? ⟨w.heap.size, a + 1, none⟩ = some (.int .u32 (s.r a)) := by rw [Nat.add_comm]; exact xa
  have ha' : (a : Int) < 16 := by omega
  obtain ⟨-, -, x18, -⟩ := cell_st B0.out
  obtain ⟨ba, bc, ma, mc, ia, ic, oa, oc, ⟨-, x19, -⟩, -, hd, -⟩ := list_st B0.out
  have AD : Hid (∀ W, Below w0.heap.size w0 W → Calls Tryd.prog 65 #[.agg C, .agg (#[.int .i64 14, .int .i64 a, .int .i64 b, .int .i64 c, .int .i64 imm])] W fun e w' => e = .returned (.int .u32 (whereZ s b imm)) ∧ Below W.heap.size W w') := fun W hW => address_any (B0.out.later hW).st hr 14 a b c imm hb hi
  have hw0 : 0 ≤ whereZ s b imm ∧ whereZ s b imm < 4294967296 := by unfold whereZ; omega
  have SV : Hid (∀ W, Below w0.heap.size w0 W → Calls Tryd.prog 66 #[memV s.wt ma s.mn mc, .int .u32 (whereZ s b imm), .int .u32 (s.r a), .bool false] W fun e w' => ∃ g cap', e = .returned (.tuple #[memV s.wt (some ⟨g, 0, none⟩) s.mn cap', .bool true]) ∧ W.heap.size ≤ g ∧ s.mn ≤ cap' ∧ RowB w' g s.mn (savedF s.mf (whereZ s b imm) (s.r a) false) ∧ Below W.heap.size W w') := fun W hW => save_yes s.wt (whereZ s b imm) (s.r a) false ma s.mn mc s.mf W (by omega) hd.1.1 hwt hw0.1 hw0.2 (hr a).1 (hr a).2 (hd.2.later hW) ho
  have SF : Hid (∀ i, 0 ≤ savedF s.mf (whereZ s b imm) (s.r a) false i ∧ savedF s.mf (whereZ s b imm) (s.r a) false i < 256) := savedF_bd hd.2.1 (hr a) _ _
  clear hd ho hwt
  go_upto_region 1 with fail
  refine wp_region_held_drew (S := fun w' => Below w0.heap.size w0 w') (by kernel_rfl) ?_ (fun hHeld => ?_)
  · exact (Below.refl _ _).drew
  refine wpAnyH_take (i := 0) (v := ?_) rfl (by kernel_rfl) (by kernel_rfl) (by kernel_rfl) (fun _ _ _ h => h) (Or.inl ⟨by rfl, ?_⟩) (by assumption) ?_
  rotate_left
  · intro w hSw; (try dsimp only at hSw); first | (go_simp; done) | (go_simp; with_reducible rfl)
  try simp only [Act.put, List.setIfInBounds_toArray, List.set_cons_zero, List.set_cons_succ]
  refine wpAnyH_take (i := 1) (v := memV s.wt ma s.mn mc) rfl (by kernel_rfl) (by kernel_rfl) (by kernel_rfl) (fun _ _ _ h => h) (Or.inl ⟨by rfl, ?_⟩) (by assumption) ?_
  · intro w hSw; (try dsimp only at hSw); unfold memV; have f0 := cell_later' x18 hSw; have f1 := cell_later' x19 hSw; first | (go_simp; done) | (go_simp; with_reducible rfl)
  try simp only [Act.put, List.setIfInBounds_toArray, List.set_cons_zero, List.set_cons_succ]
  refine wpAnyH_take (i := 2) (oi := { dst := some 10, op := Op.load 37 (.tmp 2), type := _, pos := _, after := _, guard := none }) (v := .agg C) rfl (by kernel_rfl) (by kernel_rfl) (by kernel_rfl) (fun _ _ _ h => h) (yields_st (by rfl) (.tmp 2) rfl (w.heap.size) rfl B0.out.st (fun w hw => (B0.out.at_).later hw)) (by assumption) ?_
  try simp only [Act.put, List.setIfInBounds_toArray, List.set_cons_zero, List.set_cons_succ]
  refine wpAnyH_take (i := 3) (v := .agg #[.int .i64 14, .int .i64 a, .int .i64 b, .int .i64 c, .int .i64 imm]) rfl (by kernel_rfl) (by kernel_rfl) (by kernel_rfl) (fun _ _ _ h => h) (Or.inl ⟨by rfl, ?_⟩) (by assumption) ?_
  · intro w hSw; (try dsimp only at hSw); have f0 := cell_later' y0 hSw; have f1 := cell_later' y1 hSw; have f2 := cell_later' y2 hSw; have f3 := cell_later' y3 hSw; have f4 := cell_later' y4 hSw; first | (go_simp; done) | (go_simp; with_reducible rfl)
  try simp only [Act.put, List.setIfInBounds_toArray, List.set_cons_zero, List.set_cons_succ]
  refine wpAnyH_take (i := 5) (v := ?_) rfl (by kernel_rfl) (by kernel_rfl) (by kernel_rfl) (fun _ _ _ h => h) (Or.inl ⟨by rfl, ?_⟩) (by assumption) ?_
  rotate_left
  · intro w hSw; (try dsimp only at hSw); first | (go_simp; done) | (go_simp; with_reducible rfl)
  try simp only [Act.put, List.setIfInBounds_toArray, List.set_cons_zero, List.set_cons_succ]
  refine wpAnyH_take (i := 6) (v := .int .i64 a) rfl (by kernel_rfl) (by kernel_rfl) (by kernel_rfl) (fun _ _ _ h => h) (Or.inl ⟨by rfl, ?_⟩) (by assumption) ?_
  · intro w hSw; (try dsimp only at hSw); have f0 := cell_later' y0 hSw; have f1 := cell_later' y1 hSw; have f2 := cell_later' y2 hSw; have f3 := cell_later' y3 hSw; have f4 := cell_later' y4 hSw; first | (go_simp; done) | (go_simp; with_reducible rfl)
  try simp only [Act.put, List.setIfInBounds_toArray, List.set_cons_zero, List.set_cons_succ]
  refine wpAnyH_take (i := 7) (v := ?_) rfl (by kernel_rfl) (by kernel_rfl) (by kernel_rfl) (fun _ _ _ h => h) (Or.inl ⟨by rfl, ?_⟩) (by assumption) ?_
  rotate_left
  · intro w hSw; (try dsimp only at hSw); first | (go_simp; done) | (go_simp; with_reducible rfl)
  try simp only [Act.put, List.setIfInBounds_toArray, List.set_cons_zero, List.set_cons_succ]
  refine wpAnyH_take (i := 8) (v := ?_) rfl (by kernel_rfl) (by kernel_rfl) (by kernel_rfl) (fun _ _ _ h => h) (Or.inl ⟨by rfl, ?_⟩) (by assumption) ?_
  rotate_left
  · intro w hSw; (try dsimp only at hSw); first | (go_simp; done) | (go_simp; with_reducible rfl)
  try simp only [Act.put, List.setIfInBounds_toArray, List.set_cons_zero, List.set_cons_succ]
  refine wpAnyH_take (i := 9) (v := .int .u32 (s.r a)) rfl (by kernel_rfl) (by kernel_rfl) (by kernel_rfl) (fun _ _ _ h => h) (Or.inl ⟨by rfl, ?_⟩) (by assumption) ?_
  · intro w hSw; (try dsimp only at hSw); have f5 := cell_later' xa hSw; have f6 := cell_later' xa' hSw; first | (go_simp; done) | (go_simp; with_reducible rfl)
  try simp only [Act.put, List.setIfInBounds_toArray, List.set_cons_zero, List.set_cons_succ]
  refine wpAnyH_take (i := 10) (v := ?_) rfl (by kernel_rfl) (by kernel_rfl) (by kernel_rfl) (fun _ _ _ h => h) (Or.inl ⟨by rfl, ?_⟩) (by assumption) ?_
  rotate_left
  · intro w hSw; (try dsimp only at hSw); first | (go_simp; done) | (go_simp; with_reducible rfl)
  try simp only [Act.put, List.setIfInBounds_toArray, List.set_cons_zero, List.set_cons_succ]
  refine wpAnyH_take (i := 11) (v := .int .i64 14) rfl (by kernel_rfl) (by kernel_rfl) (by kernel_rfl) (fun _ _ _ h => h) (Or.inl ⟨by rfl, ?_⟩) (by assumption) ?_
  · intro w hSw; (try dsimp only at hSw); have f0 := cell_later' y0 hSw; have f1 := cell_later' y1 hSw; have f2 := cell_later' y2 hSw; have f3 := cell_later' y3 hSw; have f4 := cell_later' y4 hSw; first | (go_simp; done) | (go_simp; with_reducible rfl)
  try simp only [Act.put, List.setIfInBounds_toArray, List.set_cons_zero, List.set_cons_succ]
  refine wpAnyH_take (i := 12) (v := .bool false) rfl (by kernel_rfl) (by kernel_rfl) (by kernel_rfl) (fun _ _ _ h => h) (Or.inl ⟨by rfl, ?_⟩) (by assumption) ?_
  · intro w hSw; (try dsimp only at hSw); first | (go_simp; done) | (go_simp; with_reducible rfl)
  try simp only [Act.put, List.setIfInBounds_toArray, List.set_cons_zero, List.set_cons_succ]
  refine wpAnyH_ready (rs := [4, 17]) (by kernel_rfl) (by simp) (AllReadyH.cons (o := { dst := some 12, op := Op.call { callee := .value (.func 65), args := #[.tmp 10, .tmp 11], argTypes := #[37, 54] }, type := _, pos := _, after := _, guard := none }) rfl (fun K hK => ?_) (AllReadyH.cons (o := { dst := some 5, op := Op.alloc 35, type := _, pos := _, after := _, guard := none }) rfl (fun K hK => ?_) AllReadyH.nil))
  · go_simp
    refine (AD.out _ hHeld).mono ?_
    rintro e w3 ⟨rfl, hb3⟩
    have l3 : Hid (w0.heap.size ≤ w3.heap.size) := (bnext hHeld hb3).size
    refine hK.out _ _ ?_ (fun hHeld => ?_)
    · exact bnext hHeld hb3
    clear hK K
    try simp only [Act.put, List.setIfInBounds_toArray, List.set_cons_zero, List.set_cons_succ]
    refine wpAnyH_ready (rs := [13, 17]) (by kernel_rfl) (by simp) (AllReadyH.cons (o := { dst := some 21, op := Op.call { callee := .value (.func 66), args := #[.tmp 9, .tmp 12, .tmp 17, .tmp 20], argTypes := #[35, 28, 28, 4] }, type := _, pos := _, after := _, guard := none }) rfl (fun K hK => ?_) (AllReadyH.cons (o := { dst := some 5, op := Op.alloc 35, type := _, pos := _, after := _, guard := none }) rfl (fun K hK => ?_) AllReadyH.nil))
    · go_simp
      refine (SV.out _ hHeld).mono ?_
      rintro e w4 ⟨g4, c4, rfl, g40, c40, r4, hb4⟩
      have l4 : Hid (w0.heap.size ≤ w4.heap.size) := (bnext hHeld hb4).size
      refine hK.out _ _ ?_ (fun hHeld => ?_)
      · exact bnext hHeld hb4
      clear hK K
      try simp only [Act.put, List.setIfInBounds_toArray, List.set_cons_zero, List.set_cons_succ]
      refine wpAnyH_take (i := 14) (v := .tuple #[memV s.wt (some ⟨g4, 0, none⟩) s.mn c4, .bool true]) rfl (by kernel_rfl) (by kernel_rfl) (by kernel_rfl) (fun _ _ _ h => h) (Or.inl ⟨by rfl, ?_⟩) (by assumption) ?_
      · intro w hSw; (try dsimp only at hSw); first | (go_simp; done) | (go_simp; with_reducible rfl)
      try simp only [Act.put, List.setIfInBounds_toArray, List.set_cons_zero, List.set_cons_succ]
      refine wpAnyH_take (i := 15) (v := memV s.wt (some ⟨g4, 0, none⟩) s.mn c4) rfl (by kernel_rfl) (by kernel_rfl) (by kernel_rfl) (fun _ _ _ h => h) (Or.inl ⟨by rfl, ?_⟩) (by assumption) ?_
      · intro w hSw; (try dsimp only at hSw); unfold memV; first | (go_simp; done) | (go_simp; with_reducible rfl)
      try simp only [Act.put, List.setIfInBounds_toArray, List.set_cons_zero, List.set_cons_succ]
      refine wpAnyH_take (i := 16) (v := .bool true) rfl (by kernel_rfl) (by kernel_rfl) (by kernel_rfl) (fun _ _ _ h => h) (Or.inl ⟨by rfl, ?_⟩) (by assumption) ?_
      · intro w hSw; (try dsimp only at hSw); first | (go_simp; done) | (go_simp; with_reducible rfl)
      try simp only [Act.put, List.setIfInBounds_toArray, List.set_cons_zero, List.set_cons_succ]
      refine wpAnyH_ready (rs := [17]) (by kernel_rfl) (by simp) (AllReadyH.cons (o := { dst := some 5, op := Op.alloc 35, type := _, pos := _, after := _, guard := none }) rfl (fun K hK => ?_) AllReadyH.nil)
      go_simp
      refine hK.out _ _ ?_ (fun hHeld => ?_)
      · exact by repeat (first | exact hHeld | exact Below.refl _ _ | refine keep_alloc ?_ _ | refine keep_drew ?_ | exact (Below.refl _ _).drew)
      clear hK K
      try simp only [Act.put, List.setIfInBounds_toArray, List.set_cons_zero, List.set_cons_succ]
      have hl9 := hHeld.size
      have hl4 : w0.heap.size ≤ w4.heap.size := l4.out
      refine wpAnyH_ready (rs := [18]) (by kernel_rfl) (by simp) (AllReadyH.cons (o := { dst := none, op := Op.store 35 (.tmp 5) (.tmp 22), type := _, pos := _, after := _, guard := none }) rfl (fun K hK => ?_) AllReadyH.nil)
      rw [if_pos (by rfl)]
      refine wp_store_mid 35 (.tmp 5) (.tmp 22) rfl (w4.heap.size) 0 #[.int .i64 s.wt, .slice (some ⟨g4, 0, none⟩) s.mn c4] rfl rfl (by intro j hj; (try simp at hj); rcases j with _ | _ | j <;> first | (simp [go_sem]; done) | omega) mem_info2 (by simp [Value.oneCell']) ?_
      refine hK.out _ _ ?_ (fun hHeld => ?_)
      · exact below_setCells _ _ _ _ hHeld (by have := hl4; omega)
      clear hK K
      try simp only [Act.put, List.setIfInBounds_toArray, List.set_cons_zero, List.set_cons_succ]
      refine wpAnyH_take (i := 19) (v := .bool true) rfl (by kernel_rfl) (by kernel_rfl) (by kernel_rfl) (fun _ _ _ h => h) (Or.inl ⟨by rfl, ?_⟩) (by assumption) ?_
      · intro w hSw; (try dsimp only at hSw); first | (go_simp; done) | (go_simp; with_reducible rfl)
      try simp only [Act.put, List.setIfInBounds_toArray, List.set_cons_zero, List.set_cons_succ]
      refine wpAnyH_done (by kernel_rfl) ?_ _
      try simp only [Act.put, List.setIfInBounds_toArray, List.set_cons_zero, List.set_cons_succ]
      have T4 : (w4.alloc (.cells #[.int .i64 0, .slice none 0 0] 35)).there w4.heap.size 0 2 := (by intro j hj; (try simp at hj); rcases j with _ | _ | j <;> first | (simp [go_sem]; done) | omega)
      have ZZ : Hid (((w4.alloc (.cells #[.int .i64 0, .slice none 0 0] 35)).setCells (w4.heap.size) 0 #[.int .i64 s.wt, .slice (some ⟨g4, 0, none⟩) s.mn c4].toList).cell? ⟨w4.heap.size, 0, none⟩ = some (.int .i64 s.wt) ∧ ((w4.alloc (.cells #[.int .i64 0, .slice none 0 0] 35)).setCells (w4.heap.size) 0 #[.int .i64 s.wt, .slice (some ⟨g4, 0, none⟩) s.mn c4].toList).cell? ⟨w4.heap.size, 1, none⟩ = some (.slice (some ⟨g4, 0, none⟩) s.mn c4)) := mem_set _ _ T4
      have B1 : Hid (Boxed w ((w4.alloc (.cells #[.int .i64 0, .slice none 0 0] 35)).setCells (w4.heap.size) 0 #[.int .i64 s.wt, .slice (some ⟨g4, 0, none⟩) s.mn c4].toList) w.heap.size (w.heap.size + 2) C C s) := B0.out.later hHeld
      have G5 : Hid (w0.heap.size ≤ g4) := (by have h1 := l3.out; omega : w0.heap.size ≤ g4)
      have ne : w4.heap.size ≠ g4 := (by have h1 := r4.2.2; omega)
      have RB : Hid (Bytes ((w4.alloc (.cells #[.int .i64 0, .slice none 0 0] 35)).setCells (w4.heap.size) 0 #[.int .i64 s.wt, .slice (some ⟨g4, 0, none⟩) s.mn c4].toList) (some ⟨g4, 0, none⟩) s.mn (savedF s.mf (whereZ s b imm) (s.r a) false)) := rowB_bytes (((r4.later ((Below.refl _ _).alloc (Nat.le_refl _) _)).far ne _ _).far ne _ _) SF.out
      have RF : Hid ((∀ q, ((w4.alloc (.cells #[.int .i64 0, .slice none 0 0] 35)).setCells (w4.heap.size) 0 #[.int .i64 s.wt, .slice (some ⟨g4, 0, none⟩) s.mn c4].toList).frozen? ⟨g4, q, none⟩ = false) ∧ g4 < ((w4.alloc (.cells #[.int .i64 0, .slice none 0 0] 35)).setCells (w4.heap.size) 0 #[.int .i64 s.wt, .slice (some ⟨g4, 0, none⟩) s.mn c4].toList).heap.size) := (((r4.later ((Below.refl _ _).alloc (Nat.le_refl _) _)).far ne _ _).far ne _ _).2
      have C4 : Hid (s.mn ≤ c4) := c40
      clear g40 c40 r4 ne
      generalize (w4.alloc (.cells #[.int .i64 0, .slice none 0 0] 35)).setCells (w4.heap.size) 0 #[.int .i64 s.wt, .slice (some ⟨g4, 0, none⟩) s.mn c4].toList = w5 at ZZ B1 RB RF ⊢
      clear hHeld hb3 hb4 T4 hl9 hl4
      generalize w4.heap.size = g5 at ZZ ⊢
      obtain ⟨z0, z1⟩ := id ZZ.out
      clear x18 x19 xa xa' y0 y1 y2 y3 y4 ZZ AD SV
      obtain ⟨-, -, x18, -⟩ := cell_st B1.out
      obtain ⟨_, _, _, _, _, _, _, _, ⟨-, x19, -⟩, -⟩ := list_st B1.out
      have f18 : w5.frozen? ⟨w.heap.size, 18, none⟩ = false := B1.out.fz 18
      have f19 : w5.frozen? ⟨w.heap.size, 19, none⟩ = false := B1.out.fz 19
      go_upto_region 5 with fail
      have B2 : Hid (Boxed w (w5.setCell ⟨w.heap.size, 18, none⟩ (.int .i64 s.wt)) w.heap.size (w.heap.size + 2) C (C.setIfInBounds 18 (.int .i64 s.wt)) s) := B1.out.put 18 (by omega) _ (fun g _ => off_int _ _ _) (put_wt B1.out.st s.wt)
      have B3 : Hid (Boxed w ((w5.setCell ⟨w.heap.size, 18, none⟩ (.int .i64 s.wt)).setCell ⟨w.heap.size, 19, none⟩ (.slice (some ⟨g4, 0, none⟩) s.mn c4)) w.heap.size (w.heap.size + 2) C ((C.setIfInBounds 18 (.int .i64 s.wt)).setIfInBounds 19 (.slice (some ⟨g4, 0, none⟩) s.mn c4)) { s with mf := savedF s.mf (whereZ s b imm) (s.r a) false }) :=
        B2.out.putMem g4 s.mn c4 (by have h1 := G5.out; have h2 := B0.out.bel.size; omega) (by have h1 := G5.out; have h2 := B0.out.hb.2.2.2.1; omega) (by have h1 := G5.out; have h2 := B0.out.hb.2.2.2.2; omega) (by simpa using RF.out.2) (fun q => by simpa using RF.out.1 q) (put_mem B2.out.st _ _ c4 _ ⟨⟨C4.out, fun e => by cases e⟩, by
          obtain ⟨e1, e2⟩ := RB.out
          exact ⟨e1, e2.imp id fun ⟨b', off', e3, e4⟩ => ⟨b', off', e3, fun i hi => by rw [World.cell?_setCell_other _ _ _ _ (fun e => by have h1 : w.heap.size = b' := congrArg Addr.block e; have h2 := G5.out; have h3 := B0.out.hb.2.2.2.1; simp only [Option.some.injEq, Addr.mk.injEq] at e3; omega)]; exact e4 i hi⟩⟩⟩)
      clear x18 x19 f18 f19 z0 z1 B1 B2 RB RF G5 C4 B0 I0
      generalize (w5.setCell ⟨w.heap.size, 18, none⟩ (.int .i64 s.wt)).setCell ⟨w.heap.size, 19, none⟩ (.slice (some ⟨g4, 0, none⟩) s.mn c4) = w6 at B3 ⊢
      generalize (C.setIfInBounds 18 (.int .i64 s.wt)).setIfInBounds 19 (.slice (some ⟨g4, 0, none⟩) s.mn c4) = C3 at B3
      go_wp2_with (first
        | (go_at_call 57; refine (lead_st B3.out.st hat 0 (by omega)).mono ?_; rintro e w9 ⟨C9, rfl, h9, v9, b9⟩)
        | ((with_reducible show wpList _ _ _ (Oper.mk _ (Op.load _ _) _ _ _ _ :: _) _ _); refine wpList_load_if (by rfl) 37 (.tmp 2) rfl w.heap.size 0 rfl C3.toList _ (at_range B3.out.at_) Tryd.underlying37 rfl (st_info B3.out.st).2 ?_)
        | ((with_reducible show wpList _ _ _ (Oper.mk _ (Op.store _ _ _) _ _ _ _ :: _) _ _); refine wpList_store_room (w := w) rfl (.tmp 4) (.tmp 31) rfl (w.heap.size + 2) C9 rfl rfl h9 (there_later B3.out.room b9) ?_))
      have TT := Told.call B3.out b9 h9 v9
      exact bodyPost_ret (v := .agg C9) (results_st rfl _ (w.heap.size + 2) (by first | rfl | simp) TT.st _ TT.at_) rfl TT.post
    · go_simp
      refine hK.out _ _ ?_ (fun hHeld => ?_)
      · exact by repeat (first | exact hHeld | exact Below.refl _ _ | refine keep_alloc ?_ _ | refine keep_drew ?_ | exact (Below.refl _ _).drew)
      clear hK K
      try simp only [Act.put, List.setIfInBounds_toArray, List.set_cons_zero, List.set_cons_succ]
      refine wpAnyH_ready (rs := [13]) (by kernel_rfl) (by simp) (AllReadyH.cons (o := { dst := some 21, op := Op.call { callee := .value (.func 66), args := #[.tmp 9, .tmp 12, .tmp 17, .tmp 20], argTypes := #[35, 28, 28, 4] }, type := _, pos := _, after := _, guard := none }) rfl (fun K hK => ?_) AllReadyH.nil)
      go_simp
      refine (SV.out _ hHeld).mono ?_
      rintro e w4 ⟨g4, c4, rfl, g40, c40, r4, hb4⟩
      have l4 : Hid (w0.heap.size ≤ w4.heap.size) := (bnext hHeld hb4).size
      refine hK.out _ _ ?_ (fun hHeld => ?_)
      · exact bnext hHeld hb4
      clear hK K
      try simp only [Act.put, List.setIfInBounds_toArray, List.set_cons_zero, List.set_cons_succ]
      refine wpAnyH_take (i := 14) (v := .tuple #[memV s.wt (some ⟨g4, 0, none⟩) s.mn c4, .bool true]) rfl (by kernel_rfl) (by kernel_rfl) (by kernel_rfl) (fun _ _ _ h => h) (Or.inl ⟨by rfl, ?_⟩) (by assumption) ?_
      · intro w hSw; (try dsimp only at hSw); first | (go_simp; done) | (go_simp; with_reducible rfl)
      try simp only [Act.put, List.setIfInBounds_toArray, List.set_cons_zero, List.set_cons_succ]
      refine wpAnyH_take (i := 15) (v := memV s.wt (some ⟨g4, 0, none⟩) s.mn c4) rfl (by kernel_rfl) (by kernel_rfl) (by kernel_rfl) (fun _ _ _ h => h) (Or.inl ⟨by rfl, ?_⟩) (by assumption) ?_
      · intro w hSw; (try dsimp only at hSw); unfold memV; first | (go_simp; done) | (go_simp; with_reducible rfl)
      try simp only [Act.put, List.setIfInBounds_toArray, List.set_cons_zero, List.set_cons_succ]
      refine wpAnyH_take (i := 16) (v := .bool true) rfl (by kernel_rfl) (by kernel_rfl) (by kernel_rfl) (fun _ _ _ h => h) (Or.inl ⟨by rfl, ?_⟩) (by assumption) ?_
      · intro w hSw; (try dsimp only at hSw); first | (go_simp; done) | (go_simp; with_reducible rfl)
      try simp only [Act.put, List.setIfInBounds_toArray, List.set_cons_zero, List.set_cons_succ]
      have hl9 := hHeld.size
      have T4 := (there_later (b := w3.heap.size) (o := 0) (n := 2) (by intro j hj; (try simp at hj); rcases j with _ | _ | j <;> first | (simp [go_sem]; done) | omega) hb4)
      have hl3 : w0.heap.size ≤ w3.heap.size := l3.out
      refine wpAnyH_ready (rs := [18]) (by kernel_rfl) (by simp) (AllReadyH.cons (o := { dst := none, op := Op.store 35 (.tmp 5) (.tmp 22), type := _, pos := _, after := _, guard := none }) rfl (fun K hK => ?_) AllReadyH.nil)
      rw [if_pos (by rfl)]
      refine wp_store_mid 35 (.tmp 5) (.tmp 22) rfl (w3.heap.size) 0 #[.int .i64 s.wt, .slice (some ⟨g4, 0, none⟩) s.mn c4] rfl rfl T4 mem_info2 (by simp [Value.oneCell']) ?_
      refine hK.out _ _ ?_ (fun hHeld => ?_)
      · exact below_setCells _ _ _ _ hHeld (by have := hl3; omega)
      clear hK K
      try simp only [Act.put, List.setIfInBounds_toArray, List.set_cons_zero, List.set_cons_succ]
      refine wpAnyH_take (i := 19) (v := .bool true) rfl (by kernel_rfl) (by kernel_rfl) (by kernel_rfl) (fun _ _ _ h => h) (Or.inl ⟨by rfl, ?_⟩) (by assumption) ?_
      · intro w hSw; (try dsimp only at hSw); first | (go_simp; done) | (go_simp; with_reducible rfl)
      try simp only [Act.put, List.setIfInBounds_toArray, List.set_cons_zero, List.set_cons_succ]
      refine wpAnyH_done (by kernel_rfl) ?_ _
      try simp only [Act.put, List.setIfInBounds_toArray, List.set_cons_zero, List.set_cons_succ]
      have ZZ : Hid ((w4.setCells (w3.heap.size) 0 #[.int .i64 s.wt, .slice (some ⟨g4, 0, none⟩) s.mn c4].toList).cell? ⟨w3.heap.size, 0, none⟩ = some (.int .i64 s.wt) ∧ (w4.setCells (w3.heap.size) 0 #[.int .i64 s.wt, .slice (some ⟨g4, 0, none⟩) s.mn c4].toList).cell? ⟨w3.heap.size, 1, none⟩ = some (.slice (some ⟨g4, 0, none⟩) s.mn c4)) := mem_set _ _ T4
      have B1 : Hid (Boxed w (w4.setCells (w3.heap.size) 0 #[.int .i64 s.wt, .slice (some ⟨g4, 0, none⟩) s.mn c4].toList) w.heap.size (w.heap.size + 2) C C s) := B0.out.later hHeld
      have G5 : Hid (w0.heap.size ≤ g4) := (by have h1 := l3.out; simp at g40; omega : w0.heap.size ≤ g4)
      have ne : w3.heap.size ≠ g4 := (by simp at g40; omega)
      have RB : Hid (Bytes (w4.setCells (w3.heap.size) 0 #[.int .i64 s.wt, .slice (some ⟨g4, 0, none⟩) s.mn c4].toList) (some ⟨g4, 0, none⟩) s.mn (savedF s.mf (whereZ s b imm) (s.r a) false)) := rowB_bytes ((r4.far ne _ _).far ne _ _) SF.out
      have RF : Hid ((∀ q, (w4.setCells (w3.heap.size) 0 #[.int .i64 s.wt, .slice (some ⟨g4, 0, none⟩) s.mn c4].toList).frozen? ⟨g4, q, none⟩ = false) ∧ g4 < (w4.setCells (w3.heap.size) 0 #[.int .i64 s.wt, .slice (some ⟨g4, 0, none⟩) s.mn c4].toList).heap.size) := ((r4.far ne _ _).far ne _ _).2
      have C4 : Hid (s.mn ≤ c4) := c40
      clear g40 c40 r4 ne
      generalize w4.setCells (w3.heap.size) 0 #[.int .i64 s.wt, .slice (some ⟨g4, 0, none⟩) s.mn c4].toList = w5 at ZZ B1 RB RF ⊢
      clear hHeld hb3 hb4 T4 hl9 hl3
      generalize w3.heap.size = g5 at ZZ ⊢
      obtain ⟨z0, z1⟩ := id ZZ.out
      clear x18 x19 xa xa' y0 y1 y2 y3 y4 ZZ AD SV
      obtain ⟨-, -, x18, -⟩ := cell_st B1.out
      obtain ⟨_, _, _, _, _, _, _, _, ⟨-, x19, -⟩, -⟩ := list_st B1.out
      have f18 : w5.frozen? ⟨w.heap.size, 18, none⟩ = false := B1.out.fz 18
      have f19 : w5.frozen? ⟨w.heap.size, 19, none⟩ = false := B1.out.fz 19
      go_upto_region 5 with fail
      have B2 : Hid (Boxed w (w5.setCell ⟨w.heap.size, 18, none⟩ (.int .i64 s.wt)) w.heap.size (w.heap.size + 2) C (C.setIfInBounds 18 (.int .i64 s.wt)) s) := B1.out.put 18 (by omega) _ (fun g _ => off_int _ _ _) (put_wt B1.out.st s.wt)
      have B3 : Hid (Boxed w ((w5.setCell ⟨w.heap.size, 18, none⟩ (.int .i64 s.wt)).setCell ⟨w.heap.size, 19, none⟩ (.slice (some ⟨g4, 0, none⟩) s.mn c4)) w.heap.size (w.heap.size + 2) C ((C.setIfInBounds 18 (.int .i64 s.wt)).setIfInBounds 19 (.slice (some ⟨g4, 0, none⟩) s.mn c4)) { s with mf := savedF s.mf (whereZ s b imm) (s.r a) false }) :=
        B2.out.putMem g4 s.mn c4 (by have h1 := G5.out; have h2 := B0.out.bel.size; omega) (by have h1 := G5.out; have h2 := B0.out.hb.2.2.2.1; omega) (by have h1 := G5.out; have h2 := B0.out.hb.2.2.2.2; omega) (by simpa using RF.out.2) (fun q => by simpa using RF.out.1 q) (put_mem B2.out.st _ _ c4 _ ⟨⟨C4.out, fun e => by cases e⟩, by
          obtain ⟨e1, e2⟩ := RB.out
          exact ⟨e1, e2.imp id fun ⟨b', off', e3, e4⟩ => ⟨b', off', e3, fun i hi => by rw [World.cell?_setCell_other _ _ _ _ (fun e => by have h1 : w.heap.size = b' := congrArg Addr.block e; have h2 := G5.out; have h3 := B0.out.hb.2.2.2.1; simp only [Option.some.injEq, Addr.mk.injEq] at e3; omega)]; exact e4 i hi⟩⟩⟩)
      clear x18 x19 f18 f19 z0 z1 B1 B2 RB RF G5 C4 B0 I0
      generalize (w5.setCell ⟨w.heap.size, 18, none⟩ (.int .i64 s.wt)).setCell ⟨w.heap.size, 19, none⟩ (.slice (some ⟨g4, 0, none⟩) s.mn c4) = w6 at B3 ⊢
      generalize (C.setIfInBounds 18 (.int .i64 s.wt)).setIfInBounds 19 (.slice (some ⟨g4, 0, none⟩) s.mn c4) = C3 at B3
      go_wp2_with (first
        | (go_at_call 57; refine (lead_st B3.out.st hat 0 (by omega)).mono ?_; rintro e w9 ⟨C9, rfl, h9, v9, b9⟩)
        | ((with_reducible show wpList _ _ _ (Oper.mk _ (Op.load _ _) _ _ _ _ :: _) _ _); refine wpList_load_if (by rfl) 37 (.tmp 2) rfl w.heap.size 0 rfl C3.toList _ (at_range B3.out.at_) Tryd.underlying37 rfl (st_info B3.out.st).2 ?_)
        | ((with_reducible show wpList _ _ _ (Oper.mk _ (Op.store _ _ _) _ _ _ _ :: _) _ _); refine wpList_store_room (w := w) rfl (.tmp 4) (.tmp 31) rfl (w.heap.size + 2) C9 rfl rfl h9 (there_later B3.out.room b9) ?_))
      have TT := Told.call B3.out b9 h9 v9
      exact bodyPost_ret (v := .agg C9) (results_st rfl _ (w.heap.size + 2) (by first | rfl | simp) TT.st _ TT.at_) rfl TT.post
  · go_simp
    refine hK.out _ _ ?_ (fun hHeld => ?_)
    · exact by repeat (first | exact hHeld | exact Below.refl _ _ | refine keep_alloc ?_ _ | refine keep_drew ?_ | exact (Below.refl _ _).drew)
    clear hK K
    try simp only [Act.put, List.setIfInBounds_toArray, List.set_cons_zero, List.set_cons_succ]
    refine wpAnyH_ready (rs := [4]) (by kernel_rfl) (by simp) (AllReadyH.cons (o := { dst := some 12, op := Op.call { callee := .value (.func 65), args := #[.tmp 10, .tmp 11], argTypes := #[37, 54] }, type := _, pos := _, after := _, guard := none }) rfl (fun K hK => ?_) AllReadyH.nil)
    go_simp
    refine (AD.out _ hHeld).mono ?_
    rintro e w3 ⟨rfl, hb3⟩
    have l3 : Hid (w0.heap.size ≤ w3.heap.size) := (bnext hHeld hb3).size
    refine hK.out _ _ ?_ (fun hHeld => ?_)
    · exact bnext hHeld hb3
    clear hK K
    try simp only [Act.put, List.setIfInBounds_toArray, List.set_cons_zero, List.set_cons_succ]
    refine wpAnyH_ready (rs := [13]) (by kernel_rfl) (by simp) (AllReadyH.cons (o := { dst := some 21, op := Op.call { callee := .value (.func 66), args := #[.tmp 9, .tmp 12, .tmp 17, .tmp 20], argTypes := #[35, 28, 28, 4] }, type := _, pos := _, after := _, guard := none }) rfl (fun K hK => ?_) AllReadyH.nil)
    go_simp
    refine (SV.out _ hHeld).mono ?_
    rintro e w4 ⟨g4, c4, rfl, g40, c40, r4, hb4⟩
    have l4 : Hid (w0.heap.size ≤ w4.heap.size) := (bnext hHeld hb4).size
    refine hK.out _ _ ?_ (fun hHeld => ?_)
    · exact bnext hHeld hb4
    clear hK K
    try simp only [Act.put, List.setIfInBounds_toArray, List.set_cons_zero, List.set_cons_succ]
    refine wpAnyH_take (i := 14) (v := .tuple #[memV s.wt (some ⟨g4, 0, none⟩) s.mn c4, .bool true]) rfl (by kernel_rfl) (by kernel_rfl) (by kernel_rfl) (fun _ _ _ h => h) (Or.inl ⟨by rfl, ?_⟩) (by assumption) ?_
    · intro w hSw; (try dsimp only at hSw); first | (go_simp; done) | (go_simp; with_reducible rfl)
    try simp only [Act.put, List.setIfInBounds_toArray, List.set_cons_zero, List.set_cons_succ]
    refine wpAnyH_take (i := 15) (v := memV s.wt (some ⟨g4, 0, none⟩) s.mn c4) rfl (by kernel_rfl) (by kernel_rfl) (by kernel_rfl) (fun _ _ _ h => h) (Or.inl ⟨by rfl, ?_⟩) (by assumption) ?_
    · intro w hSw; (try dsimp only at hSw); unfold memV; first | (go_simp; done) | (go_simp; with_reducible rfl)
    try simp only [Act.put, List.setIfInBounds_toArray, List.set_cons_zero, List.set_cons_succ]
    refine wpAnyH_take (i := 16) (v := .bool true) rfl (by kernel_rfl) (by kernel_rfl) (by kernel_rfl) (fun _ _ _ h => h) (Or.inl ⟨by rfl, ?_⟩) (by assumption) ?_
    · intro w hSw; (try dsimp only at hSw); first | (go_simp; done) | (go_simp; with_reducible rfl)
    try simp only [Act.put, List.setIfInBounds_toArray, List.set_cons_zero, List.set_cons_succ]
    have hl9 := hHeld.size
    have T4 := (there_later (there_later (b := w0.heap.size) (o := 0) (n := 2) (by intro j hj; (try simp at hj); rcases j with _ | _ | j <;> first | (simp [go_sem]; done) | omega) hb3) hb4)
    refine wpAnyH_ready (rs := [18]) (by kernel_rfl) (by simp) (AllReadyH.cons (o := { dst := none, op := Op.store 35 (.tmp 5) (.tmp 22), type := _, pos := _, after := _, guard := none }) rfl (fun K hK => ?_) AllReadyH.nil)
    rw [if_pos (by rfl)]
    refine wp_store_mid 35 (.tmp 5) (.tmp 22) rfl (w0.heap.size) 0 #[.int .i64 s.wt, .slice (some ⟨g4, 0, none⟩) s.mn c4] rfl rfl T4 mem_info2 (by simp [Value.oneCell']) ?_
    refine hK.out _ _ ?_ (fun hHeld => ?_)
    · exact below_setCells _ _ _ _ hHeld (Nat.le_refl _)
    clear hK K
    try simp only [Act.put, List.setIfInBounds_toArray, List.set_cons_zero, List.set_cons_succ]
    refine wpAnyH_take (i := 19) (v := .bool true) rfl (by kernel_rfl) (by kernel_rfl) (by kernel_rfl) (fun _ _ _ h => h) (Or.inl ⟨by rfl, ?_⟩) (by assumption) ?_
    · intro w hSw; (try dsimp only at hSw); first | (go_simp; done) | (go_simp; with_reducible rfl)
    try simp only [Act.put, List.setIfInBounds_toArray, List.set_cons_zero, List.set_cons_succ]
    refine wpAnyH_done (by kernel_rfl) ?_ _
    try simp only [Act.put, List.setIfInBounds_toArray, List.set_cons_zero, List.set_cons_succ]
    have ZZ : Hid ((w4.setCells (w0.heap.size) 0 #[.int .i64 s.wt, .slice (some ⟨g4, 0, none⟩) s.mn c4].toList).cell? ⟨w0.heap.size, 0, none⟩ = some (.int .i64 s.wt) ∧ (w4.setCells (w0.heap.size) 0 #[.int .i64 s.wt, .slice (some ⟨g4, 0, none⟩) s.mn c4].toList).cell? ⟨w0.heap.size, 1, none⟩ = some (.slice (some ⟨g4, 0, none⟩) s.mn c4)) := mem_set _ _ T4
    have B1 : Hid (Boxed w (w4.setCells (w0.heap.size) 0 #[.int .i64 s.wt, .slice (some ⟨g4, 0, none⟩) s.mn c4].toList) w.heap.size (w.heap.size + 2) C C s) := B0.out.later hHeld
    have G5 : Hid (w0.heap.size ≤ g4) := (by have h1 := hb3.size; have h2 := hb4.size; simp at h1; omega : w0.heap.size ≤ g4)
    have ne : w0.heap.size ≠ g4 := (by have h1 := hb3.size; simp at h1; omega)
    have RB : Hid (Bytes (w4.setCells (w0.heap.size) 0 #[.int .i64 s.wt, .slice (some ⟨g4, 0, none⟩) s.mn c4].toList) (some ⟨g4, 0, none⟩) s.mn (savedF s.mf (whereZ s b imm) (s.r a) false)) := rowB_bytes ((r4.far ne _ _).far ne _ _) SF.out
    have RF : Hid ((∀ q, (w4.setCells (w0.heap.size) 0 #[.int .i64 s.wt, .slice (some ⟨g4, 0, none⟩) s.mn c4].toList).frozen? ⟨g4, q, none⟩ = false) ∧ g4 < (w4.setCells (w0.heap.size) 0 #[.int .i64 s.wt, .slice (some ⟨g4, 0, none⟩) s.mn c4].toList).heap.size) := ((r4.far ne _ _).far ne _ _).2
    have C4 : Hid (s.mn ≤ c4) := c40
    clear g40 c40 r4 ne
    generalize w4.setCells (w0.heap.size) 0 #[.int .i64 s.wt, .slice (some ⟨g4, 0, none⟩) s.mn c4].toList = w5 at ZZ B1 RB RF ⊢
    clear hHeld hb3 hb4 T4 hl9
    generalize w0.heap.size = g5 at ZZ ⊢
    obtain ⟨z0, z1⟩ := id ZZ.out
    clear x18 x19 xa xa' y0 y1 y2 y3 y4 ZZ AD SV
    obtain ⟨-, -, x18, -⟩ := cell_st B1.out
    obtain ⟨_, _, _, _, _, _, _, _, ⟨-, x19, -⟩, -⟩ := list_st B1.out
    have f18 : w5.frozen? ⟨w.heap.size, 18, none⟩ = false := B1.out.fz 18
    have f19 : w5.frozen? ⟨w.heap.size, 19, none⟩ = false := B1.out.fz 19
    go_upto_region 5 with fail
    have B2 : Hid (Boxed w (w5.setCell ⟨w.heap.size, 18, none⟩ (.int .i64 s.wt)) w.heap.size (w.heap.size + 2) C (C.setIfInBounds 18 (.int .i64 s.wt)) s) := B1.out.put 18 (by omega) _ (fun g _ => off_int _ _ _) (put_wt B1.out.st s.wt)
    have B3 : Hid (Boxed w ((w5.setCell ⟨w.heap.size, 18, none⟩ (.int .i64 s.wt)).setCell ⟨w.heap.size, 19, none⟩ (.slice (some ⟨g4, 0, none⟩) s.mn c4)) w.heap.size (w.heap.size + 2) C ((C.setIfInBounds 18 (.int .i64 s.wt)).setIfInBounds 19 (.slice (some ⟨g4, 0, none⟩) s.mn c4)) { s with mf := savedF s.mf (whereZ s b imm) (s.r a) false }) :=
      B2.out.putMem g4 s.mn c4 (by have h1 := G5.out; have h2 := B0.out.bel.size; omega) (by have h1 := G5.out; have h2 := B0.out.hb.2.2.2.1; omega) (by have h1 := G5.out; have h2 := B0.out.hb.2.2.2.2; omega) (by simpa using RF.out.2) (fun q => by simpa using RF.out.1 q) (put_mem B2.out.st _ _ c4 _ ⟨⟨C4.out, fun e => by cases e⟩, by
        obtain ⟨e1, e2⟩ := RB.out
        exact ⟨e1, e2.imp id fun ⟨b', off', e3, e4⟩ => ⟨b', off', e3, fun i hi => by rw [World.cell?_setCell_other _ _ _ _ (fun e => by have h1 : w.heap.size = b' := congrArg Addr.block e; have h2 := G5.out; have h3 := B0.out.hb.2.2.2.1; simp only [Option.some.injEq, Addr.mk.injEq] at e3; omega)]; exact e4 i hi⟩⟩⟩)
    clear x18 x19 f18 f19 z0 z1 B1 B2 RB RF G5 C4 B0 I0
    generalize (w5.setCell ⟨w.heap.size, 18, none⟩ (.int .i64 s.wt)).setCell ⟨w.heap.size, 19, none⟩ (.slice (some ⟨g4, 0, none⟩) s.mn c4) = w6 at B3 ⊢
    generalize (C.setIfInBounds 18 (.int .i64 s.wt)).setIfInBounds 19 (.slice (some ⟨g4, 0, none⟩) s.mn c4) = C3 at B3
    go_wp2_with (first
      | (go_at_call 57; refine (lead_st B3.out.st hat 0 (by omega)).mono ?_; rintro e w9 ⟨C9, rfl, h9, v9, b9⟩)
      | ((with_reducible show wpList _ _ _ (Oper.mk _ (Op.load _ _) _ _ _ _ :: _) _ _); refine wpList_load_if (by rfl) 37 (.tmp 2) rfl w.heap.size 0 rfl C3.toList _ (at_range B3.out.at_) Tryd.underlying37 rfl (st_info B3.out.st).2 ?_)
      | ((with_reducible show wpList _ _ _ (Oper.mk _ (Op.store _ _ _) _ _ _ _ :: _) _ _); refine wpList_store_room (w := w) rfl (.tmp 4) (.tmp 31) rfl (w.heap.size + 2) C9 rfl rfl h9 (there_later B3.out.room b9) ?_))
    have TT := Told.call B3.out b9 h9 v9
    exact bodyPost_ret (v := .agg C9) (results_st rfl _ (w.heap.size + 2) (by first | rfl | simp) TT.st _ TT.at_) rfl TT.post
set_option maxRecDepth 100000 in
set_option maxHeartbeats 2000000 in
theorem saveb_no {w : World} {C : Array Value} {s : St} (h : IsSt w (.agg C) s) (hs : Small s) (a b : Nat) (c imm : Int) (ha : a < 16) (hb : b < 16) (hi : -1073741824 ≤ imm ∧ imm ≤ 1073741824) (ho : saveB s.mn (whereZ s b imm) false s.wt = false) :
    Calls Tryd.prog 53 #[.agg C, .agg (#[.int .i64 14, .int .i64 a, .int .i64 b, .int .i64 c, .int .i64 imm])] w (StPost w C (s.stop 4)) := by
  obtain ⟨⟨hr0, hr⟩, hat, hl, hwt, -⟩ := hs
  have B0 : Hid (Boxed w (((w.alloc (.cells C 37)).alloc (.cells #[.int .i64 14, .int .i64 a, .int .i64 b, .int .i64 c, .int .i64 imm] 54)).alloc (.cells noSt 37)) w.heap.size (w.heap.size + 2) C C s) := Boxed.new3 h _ _ _ _
  have I0 : Hid (InsAt (((w.alloc (.cells C 37)).alloc (.cells #[.int .i64 14, .int .i64 a, .int .i64 b, .int .i64 c, .int .i64 imm] 54)).alloc (.cells noSt 37)) (w.heap.size + 1) 14 a b c imm) := ins_new3 _ _ _ _ _ _ _ _ _ _ _
  clear h
  go_enter Tryd.func53, Tryd.ntmps53
  go_upto_region 1 with fail
  rw [noSt_def]
  generalize ((w.alloc (.cells C 37)).alloc (.cells #[.int .i64 14, .int .i64 a, .int .i64 b, .int .i64 c, .int .i64 imm] 54)).alloc (.cells noSt 37) = w0 at B0 I0 ⊢
  obtain ⟨y0, y1, y2, y3, y4⟩ := id I0.out
  have xa := (cell_st B0.out).2.1 a ha
  have xa' : w0.cell? ⟨w.heap.size, a + 1, none⟩ = some (.int .u32 (s.r a)) := by rw [Nat.add_comm]; exact xa
  have ha' : (a : Int) < 16 := by omega
  obtain ⟨-, -, x18, -⟩ := cell_st B0.out
  obtain ⟨ba, bc, ma, mc, ia, ic, oa, oc, ⟨-, x19, -⟩, -, hd, -⟩ := list_st B0.out
  have AD : Hid (∀ W, Below w0.heap.size w0 W → Calls Tryd.prog 65 #[.agg C, .agg (#[.int .i64 14, .int .i64 a, .int .i64 b, .int .i64 c, .int .i64 imm])] W fun e w' => e = .returned (.int .u32 (whereZ s b imm)) ∧ Below W.heap.size W w') := fun W hW => address_any (B0.out.later hW).st hr 14 a b c imm hb hi
  have hw0 : 0 ≤ whereZ s b imm ∧ whereZ s b imm < 4294967296 := by unfold whereZ; omega
  have SV : Hid (∀ W, Below w0.heap.size w0 W → Calls Tryd.prog 66 #[memV s.wt ma s.mn mc, .int .u32 (whereZ s b imm), .int .u32 (s.r a), .bool false] W fun e w' => e = .returned (.tuple #[memV s.wt ma s.mn mc, .bool false]) ∧ Below W.heap.size W w') := fun W hW => save_no s.wt (whereZ s b imm) (s.r a) false ma s.mn mc s.mf W (by omega) hd.1.1 hwt hw0.1 hw0.2 (hd.2.later hW) ho
  clear hd ho hwt
  go_upto_region 1 with fail
  refine wp_region_held_drew (S := fun w' => Below w0.heap.size w0 w') (by kernel_rfl) ?_ (fun hHeld => ?_)
  · exact (Below.refl _ _).drew
  refine wpAnyH_take (i := 0) (v := ?_) rfl (by kernel_rfl) (by kernel_rfl) (by kernel_rfl) (fun _ _ _ h => h) (Or.inl ⟨by rfl, ?_⟩) (by assumption) ?_
  rotate_left
  · intro w hSw; (try dsimp only at hSw); first | (go_simp; done) | (go_simp; with_reducible rfl)
  try simp only [Act.put, List.setIfInBounds_toArray, List.set_cons_zero, List.set_cons_succ]
  refine wpAnyH_take (i := 1) (v := memV s.wt ma s.mn mc) rfl (by kernel_rfl) (by kernel_rfl) (by kernel_rfl) (fun _ _ _ h => h) (Or.inl ⟨by rfl, ?_⟩) (by assumption) ?_
  · intro w hSw; (try dsimp only at hSw); unfold memV; have f0 := cell_later' x18 hSw; have f1 := cell_later' x19 hSw; first | (go_simp; done) | (go_simp; with_reducible rfl)
  try simp only [Act.put, List.setIfInBounds_toArray, List.set_cons_zero, List.set_cons_succ]
  refine wpAnyH_take (i := 2) (oi := { dst := some 10, op := Op.load 37 (.tmp 2), type := _, pos := _, after := _, guard := none }) (v := .agg C) rfl (by kernel_rfl) (by kernel_rfl) (by kernel_rfl) (fun _ _ _ h => h) (yields_st (by rfl) (.tmp 2) rfl (w.heap.size) rfl B0.out.st (fun w hw => (B0.out.at_).later hw)) (by assumption) ?_
  try simp only [Act.put, List.setIfInBounds_toArray, List.set_cons_zero, List.set_cons_succ]
  refine wpAnyH_take (i := 3) (v := .agg #[.int .i64 14, .int .i64 a, .int .i64 b, .int .i64 c, .int .i64 imm]) rfl (by kernel_rfl) (by kernel_rfl) (by kernel_rfl) (fun _ _ _ h => h) (Or.inl ⟨by rfl, ?_⟩) (by assumption) ?_
  · intro w hSw; (try dsimp only at hSw); have f0 := cell_later' y0 hSw; have f1 := cell_later' y1 hSw; have f2 := cell_later' y2 hSw; have f3 := cell_later' y3 hSw; have f4 := cell_later' y4 hSw; first | (go_simp; done) | (go_simp; with_reducible rfl)
  try simp only [Act.put, List.setIfInBounds_toArray, List.set_cons_zero, List.set_cons_succ]
  refine wpAnyH_take (i := 5) (v := ?_) rfl (by kernel_rfl) (by kernel_rfl) (by kernel_rfl) (fun _ _ _ h => h) (Or.inl ⟨by rfl, ?_⟩) (by assumption) ?_
  rotate_left
  · intro w hSw; (try dsimp only at hSw); first | (go_simp; done) | (go_simp; with_reducible rfl)
  try simp only [Act.put, List.setIfInBounds_toArray, List.set_cons_zero, List.set_cons_succ]
  refine wpAnyH_take (i := 6) (v := .int .i64 a) rfl (by kernel_rfl) (by kernel_rfl) (by kernel_rfl) (fun _ _ _ h => h) (Or.inl ⟨by rfl, ?_⟩) (by assumption) ?_
  · intro w hSw; (try dsimp only at hSw); have f0 := cell_later' y0 hSw; have f1 := cell_later' y1 hSw; have f2 := cell_later' y2 hSw; have f3 := cell_later' y3 hSw; have f4 := cell_later' y4 hSw; first | (go_simp; done) | (go_simp; with_reducible rfl)
  try simp only [Act.put, List.setIfInBounds_toArray, List.set_cons_zero, List.set_cons_succ]
  refine wpAnyH_take (i := 7) (v := ?_) rfl (by kernel_rfl) (by kernel_rfl) (by kernel_rfl) (fun _ _ _ h => h) (Or.inl ⟨by rfl, ?_⟩) (by assumption) ?_
  rotate_left
  · intro w hSw; (try dsimp only at hSw); first | (go_simp; done) | (go_simp; with_reducible rfl)
  try simp only [Act.put, List.setIfInBounds_toArray, List.set_cons_zero, List.set_cons_succ]
  refine wpAnyH_take (i := 8) (v := ?_) rfl (by kernel_rfl) (by kernel_rfl) (by kernel_rfl) (fun _ _ _ h => h) (Or.inl ⟨by rfl, ?_⟩) (by assumption) ?_
  rotate_left
  · intro w hSw; (try dsimp only at hSw); first | (go_simp; done) | (go_simp; with_reducible rfl)
  try simp only [Act.put, List.setIfInBounds_toArray, List.set_cons_zero, List.set_cons_succ]
  refine wpAnyH_take (i := 9) (v := .int .u32 (s.r a)) rfl (by kernel_rfl) (by kernel_rfl) (by kernel_rfl) (fun _ _ _ h => h) (Or.inl ⟨by rfl, ?_⟩) (by assumption) ?_
  · intro w hSw; (try dsimp only at hSw); have f5 := cell_later' xa hSw; have f6 := cell_later' xa' hSw; first | (go_simp; done) | (go_simp; with_reducible rfl)
  try simp only [Act.put, List.setIfInBounds_toArray, List.set_cons_zero, List.set_cons_succ]
  refine wpAnyH_take (i := 10) (v := ?_) rfl (by kernel_rfl) (by kernel_rfl) (by kernel_rfl) (fun _ _ _ h => h) (Or.inl ⟨by rfl, ?_⟩) (by assumption) ?_
  rotate_left
  · intro w hSw; (try dsimp only at hSw); first | (go_simp; done) | (go_simp; with_reducible rfl)
  try simp only [Act.put, List.setIfInBounds_toArray, List.set_cons_zero, List.set_cons_succ]
  refine wpAnyH_take (i := 11) (v := .int .i64 14) rfl (by kernel_rfl) (by kernel_rfl) (by kernel_rfl) (fun _ _ _ h => h) (Or.inl ⟨by rfl, ?_⟩) (by assumption) ?_
  · intro w hSw; (try dsimp only at hSw); have f0 := cell_later' y0 hSw; have f1 := cell_later' y1 hSw; have f2 := cell_later' y2 hSw; have f3 := cell_later' y3 hSw; have f4 := cell_later' y4 hSw; first | (go_simp; done) | (go_simp; with_reducible rfl)
  try simp only [Act.put, List.setIfInBounds_toArray, List.set_cons_zero, List.set_cons_succ]
  refine wpAnyH_take (i := 12) (v := .bool false) rfl (by kernel_rfl) (by kernel_rfl) (by kernel_rfl) (fun _ _ _ h => h) (Or.inl ⟨by rfl, ?_⟩) (by assumption) ?_
  · intro w hSw; (try dsimp only at hSw); first | (go_simp; done) | (go_simp; with_reducible rfl)
  try simp only [Act.put, List.setIfInBounds_toArray, List.set_cons_zero, List.set_cons_succ]
  refine wpAnyH_ready (rs := [4, 17]) (by kernel_rfl) (by simp) (AllReadyH.cons (o := { dst := some 12, op := Op.call { callee := .value (.func 65), args := #[.tmp 10, .tmp 11], argTypes := #[37, 54] }, type := _, pos := _, after := _, guard := none }) rfl (fun K hK => ?_) (AllReadyH.cons (o := { dst := some 5, op := Op.alloc 35, type := _, pos := _, after := _, guard := none }) rfl (fun K hK => ?_) AllReadyH.nil))
  · go_simp
    refine (AD.out _ hHeld).mono ?_
    rintro e w3 ⟨rfl, hb3⟩
    have l3 : Hid (w0.heap.size ≤ w3.heap.size) := (bnext hHeld hb3).size
    refine hK.out _ _ ?_ (fun hHeld => ?_)
    · exact bnext hHeld hb3
    clear hK K
    try simp only [Act.put, List.setIfInBounds_toArray, List.set_cons_zero, List.set_cons_succ]
    refine wpAnyH_ready (rs := [13, 17]) (by kernel_rfl) (by simp) (AllReadyH.cons (o := { dst := some 21, op := Op.call { callee := .value (.func 66), args := #[.tmp 9, .tmp 12, .tmp 17, .tmp 20], argTypes := #[35, 28, 28, 4] }, type := _, pos := _, after := _, guard := none }) rfl (fun K hK => ?_) (AllReadyH.cons (o := { dst := some 5, op := Op.alloc 35, type := _, pos := _, after := _, guard := none }) rfl (fun K hK => ?_) AllReadyH.nil))
    · go_simp
      refine (SV.out _ hHeld).mono ?_
      rintro e w4 ⟨rfl, hb4⟩
      have l4 : Hid (w0.heap.size ≤ w4.heap.size) := (bnext hHeld hb4).size
      refine hK.out _ _ ?_ (fun hHeld => ?_)
      · exact bnext hHeld hb4
      clear hK K
      try simp only [Act.put, List.setIfInBounds_toArray, List.set_cons_zero, List.set_cons_succ]
      refine wpAnyH_take (i := 14) (v := .tuple #[memV s.wt ma s.mn mc, .bool false]) rfl (by kernel_rfl) (by kernel_rfl) (by kernel_rfl) (fun _ _ _ h => h) (Or.inl ⟨by rfl, ?_⟩) (by assumption) ?_
      · intro w hSw; (try dsimp only at hSw); first | (go_simp; done) | (go_simp; with_reducible rfl)
      try simp only [Act.put, List.setIfInBounds_toArray, List.set_cons_zero, List.set_cons_succ]
      refine wpAnyH_take (i := 15) (v := memV s.wt ma s.mn mc) rfl (by kernel_rfl) (by kernel_rfl) (by kernel_rfl) (fun _ _ _ h => h) (Or.inl ⟨by rfl, ?_⟩) (by assumption) ?_
      · intro w hSw; (try dsimp only at hSw); unfold memV; first | (go_simp; done) | (go_simp; with_reducible rfl)
      try simp only [Act.put, List.setIfInBounds_toArray, List.set_cons_zero, List.set_cons_succ]
      refine wpAnyH_take (i := 16) (v := .bool false) rfl (by kernel_rfl) (by kernel_rfl) (by kernel_rfl) (fun _ _ _ h => h) (Or.inl ⟨by rfl, ?_⟩) (by assumption) ?_
      · intro w hSw; (try dsimp only at hSw); first | (go_simp; done) | (go_simp; with_reducible rfl)
      try simp only [Act.put, List.setIfInBounds_toArray, List.set_cons_zero, List.set_cons_succ]
      refine wpAnyH_ready (rs := [17]) (by kernel_rfl) (by simp) (AllReadyH.cons (o := { dst := some 5, op := Op.alloc 35, type := _, pos := _, after := _, guard := none }) rfl (fun K hK => ?_) AllReadyH.nil)
      go_simp
      refine hK.out _ _ ?_ (fun hHeld => ?_)
      · exact by repeat (first | exact hHeld | exact Below.refl _ _ | refine keep_alloc ?_ _ | refine keep_drew ?_ | exact (Below.refl _ _).drew)
      clear hK K
      try simp only [Act.put, List.setIfInBounds_toArray, List.set_cons_zero, List.set_cons_succ]
      have hl9 := hHeld.size
      have hl4 : w0.heap.size ≤ w4.heap.size := l4.out
      refine wpAnyH_ready (rs := [18]) (by kernel_rfl) (by simp) (AllReadyH.cons (o := { dst := none, op := Op.store 35 (.tmp 5) (.tmp 22), type := _, pos := _, after := _, guard := none }) rfl (fun K hK => ?_) AllReadyH.nil)
      rw [if_pos (by rfl)]
      refine wp_store_mid 35 (.tmp 5) (.tmp 22) rfl (w4.heap.size) 0 #[.int .i64 s.wt, .slice ma s.mn mc] rfl rfl (by intro j hj; (try simp at hj); rcases j with _ | _ | j <;> first | (simp [go_sem]; done) | omega) mem_info2 (by simp [Value.oneCell']) ?_
      refine hK.out _ _ ?_ (fun hHeld => ?_)
      · exact below_setCells _ _ _ _ hHeld (by have := hl4; omega)
      clear hK K
      try simp only [Act.put, List.setIfInBounds_toArray, List.set_cons_zero, List.set_cons_succ]
      refine wpAnyH_take (i := 19) (v := .bool false) rfl (by kernel_rfl) (by kernel_rfl) (by kernel_rfl) (fun _ _ _ h => h) (Or.inl ⟨by rfl, ?_⟩) (by assumption) ?_
      · intro w hSw; (try dsimp only at hSw); first | (go_simp; done) | (go_simp; with_reducible rfl)
      try simp only [Act.put, List.setIfInBounds_toArray, List.set_cons_zero, List.set_cons_succ]
      refine wpAnyH_done (by kernel_rfl) ?_ _
      try simp only [Act.put, List.setIfInBounds_toArray, List.set_cons_zero, List.set_cons_succ]
      have T4 : (w4.alloc (.cells #[.int .i64 0, .slice none 0 0] 35)).there w4.heap.size 0 2 := (by intro j hj; (try simp at hj); rcases j with _ | _ | j <;> first | (simp [go_sem]; done) | omega)
      have ZZ : Hid (((w4.alloc (.cells #[.int .i64 0, .slice none 0 0] 35)).setCells (w4.heap.size) 0 #[.int .i64 s.wt, .slice ma s.mn mc].toList).cell? ⟨w4.heap.size, 0, none⟩ = some (.int .i64 s.wt) ∧ ((w4.alloc (.cells #[.int .i64 0, .slice none 0 0] 35)).setCells (w4.heap.size) 0 #[.int .i64 s.wt, .slice ma s.mn mc].toList).cell? ⟨w4.heap.size, 1, none⟩ = some (.slice ma s.mn mc)) := mem_set _ _ T4
      have B1 : Hid (Boxed w ((w4.alloc (.cells #[.int .i64 0, .slice none 0 0] 35)).setCells (w4.heap.size) 0 #[.int .i64 s.wt, .slice ma s.mn mc].toList) w.heap.size (w.heap.size + 2) C C s) := B0.out.later hHeld
      generalize (w4.alloc (.cells #[.int .i64 0, .slice none 0 0] 35)).setCells (w4.heap.size) 0 #[.int .i64 s.wt, .slice ma s.mn mc].toList = w5 at ZZ B1 ⊢
      clear hHeld hb3 hb4 T4 hl9 hl4
      generalize w4.heap.size = g5 at ZZ ⊢
      obtain ⟨z0, z1⟩ := id ZZ.out
      clear x18 x19 xa xa' y0 y1 y2 y3 y4 ZZ AD SV
      go_wp2_with (first
        | (go_at_call 51; refine (fault_st B1.out.st 4).mono ?_; rintro e w9 ⟨C9, rfl, h9, v9, b9⟩)
        | ((with_reducible show wpList _ _ _ (Oper.mk _ (Op.load _ _) _ _ _ _ :: _) _ _); refine wpList_load_if (by rfl) 37 (.tmp 2) rfl w.heap.size 0 rfl C.toList _ (at_range B1.out.at_) Tryd.underlying37 rfl (st_info B1.out.st).2 ?_)
        | ((with_reducible show wpList _ _ _ (Oper.mk _ (Op.store _ _ _) _ _ _ _ :: _) _ _); refine wpList_store_room (w := w) rfl (.tmp 4) (.tmp 27) rfl (w.heap.size + 2) C9 rfl rfl h9 (there_later B1.out.room b9) ?_))
      have TT := Told.call B1.out b9 h9 v9
      exact bodyPost_ret (v := .agg C9) (results_st rfl _ (w.heap.size + 2) (by first | rfl | simp) TT.st _ TT.at_) rfl TT.post
    · go_simp
      refine hK.out _ _ ?_ (fun hHeld => ?_)
      · exact by repeat (first | exact hHeld | exact Below.refl _ _ | refine keep_alloc ?_ _ | refine keep_drew ?_ | exact (Below.refl _ _).drew)
      clear hK K
      try simp only [Act.put, List.setIfInBounds_toArray, List.set_cons_zero, List.set_cons_succ]
      refine wpAnyH_ready (rs := [13]) (by kernel_rfl) (by simp) (AllReadyH.cons (o := { dst := some 21, op := Op.call { callee := .value (.func 66), args := #[.tmp 9, .tmp 12, .tmp 17, .tmp 20], argTypes := #[35, 28, 28, 4] }, type := _, pos := _, after := _, guard := none }) rfl (fun K hK => ?_) AllReadyH.nil)
      go_simp
      refine (SV.out _ hHeld).mono ?_
      rintro e w4 ⟨rfl, hb4⟩
      have l4 : Hid (w0.heap.size ≤ w4.heap.size) := (bnext hHeld hb4).size
      refine hK.out _ _ ?_ (fun hHeld => ?_)
      · exact bnext hHeld hb4
      clear hK K
      try simp only [Act.put, List.setIfInBounds_toArray, List.set_cons_zero, List.set_cons_succ]
      refine wpAnyH_take (i := 14) (v := .tuple #[memV s.wt ma s.mn mc, .bool false]) rfl (by kernel_rfl) (by kernel_rfl) (by kernel_rfl) (fun _ _ _ h => h) (Or.inl ⟨by rfl, ?_⟩) (by assumption) ?_
      · intro w hSw; (try dsimp only at hSw); first | (go_simp; done) | (go_simp; with_reducible rfl)
      try simp only [Act.put, List.setIfInBounds_toArray, List.set_cons_zero, List.set_cons_succ]
      refine wpAnyH_take (i := 15) (v := memV s.wt ma s.mn mc) rfl (by kernel_rfl) (by kernel_rfl) (by kernel_rfl) (fun _ _ _ h => h) (Or.inl ⟨by rfl, ?_⟩) (by assumption) ?_
      · intro w hSw; (try dsimp only at hSw); unfold memV; first | (go_simp; done) | (go_simp; with_reducible rfl)
      try simp only [Act.put, List.setIfInBounds_toArray, List.set_cons_zero, List.set_cons_succ]
      refine wpAnyH_take (i := 16) (v := .bool false) rfl (by kernel_rfl) (by kernel_rfl) (by kernel_rfl) (fun _ _ _ h => h) (Or.inl ⟨by rfl, ?_⟩) (by assumption) ?_
      · intro w hSw; (try dsimp only at hSw); first | (go_simp; done) | (go_simp; with_reducible rfl)
      try simp only [Act.put, List.setIfInBounds_toArray, List.set_cons_zero, List.set_cons_succ]
      have hl9 := hHeld.size
      have T4 := (there_later (b := w3.heap.size) (o := 0) (n := 2) (by intro j hj; (try simp at hj); rcases j with _ | _ | j <;> first | (simp [go_sem]; done) | omega) hb4)
      have hl3 : w0.heap.size ≤ w3.heap.size := l3.out
      refine wpAnyH_ready (rs := [18]) (by kernel_rfl) (by simp) (AllReadyH.cons (o := { dst := none, op := Op.store 35 (.tmp 5) (.tmp 22), type := _, pos := _, after := _, guard := none }) rfl (fun K hK => ?_) AllReadyH.nil)
      rw [if_pos (by rfl)]
      refine wp_store_mid 35 (.tmp 5) (.tmp 22) rfl (w3.heap.size) 0 #[.int .i64 s.wt, .slice ma s.mn mc] rfl rfl T4 mem_info2 (by simp [Value.oneCell']) ?_
      refine hK.out _ _ ?_ (fun hHeld => ?_)
      · exact below_setCells _ _ _ _ hHeld (by have := hl3; omega)
      clear hK K
      try simp only [Act.put, List.setIfInBounds_toArray, List.set_cons_zero, List.set_cons_succ]
      refine wpAnyH_take (i := 19) (v := .bool false) rfl (by kernel_rfl) (by kernel_rfl) (by kernel_rfl) (fun _ _ _ h => h) (Or.inl ⟨by rfl, ?_⟩) (by assumption) ?_
      · intro w hSw; (try dsimp only at hSw); first | (go_simp; done) | (go_simp; with_reducible rfl)
      try simp only [Act.put, List.setIfInBounds_toArray, List.set_cons_zero, List.set_cons_succ]
      refine wpAnyH_done (by kernel_rfl) ?_ _
      try simp only [Act.put, List.setIfInBounds_toArray, List.set_cons_zero, List.set_cons_succ]
      have ZZ : Hid ((w4.setCells (w3.heap.size) 0 #[.int .i64 s.wt, .slice ma s.mn mc].toList).cell? ⟨w3.heap.size, 0, none⟩ = some (.int .i64 s.wt) ∧ (w4.setCells (w3.heap.size) 0 #[.int .i64 s.wt, .slice ma s.mn mc].toList).cell? ⟨w3.heap.size, 1, none⟩ = some (.slice ma s.mn mc)) := mem_set _ _ T4
      have B1 : Hid (Boxed w (w4.setCells (w3.heap.size) 0 #[.int .i64 s.wt, .slice ma s.mn mc].toList) w.heap.size (w.heap.size + 2) C C s) := B0.out.later hHeld
      generalize w4.setCells (w3.heap.size) 0 #[.int .i64 s.wt, .slice ma s.mn mc].toList = w5 at ZZ B1 ⊢
      clear hHeld hb3 hb4 T4 hl9 hl3
      generalize w3.heap.size = g5 at ZZ ⊢
      obtain ⟨z0, z1⟩ := id ZZ.out
      clear x18 x19 xa xa' y0 y1 y2 y3 y4 ZZ AD SV
      go_wp2_with (first
        | (go_at_call 51; refine (fault_st B1.out.st 4).mono ?_; rintro e w9 ⟨C9, rfl, h9, v9, b9⟩)
        | ((with_reducible show wpList _ _ _ (Oper.mk _ (Op.load _ _) _ _ _ _ :: _) _ _); refine wpList_load_if (by rfl) 37 (.tmp 2) rfl w.heap.size 0 rfl C.toList _ (at_range B1.out.at_) Tryd.underlying37 rfl (st_info B1.out.st).2 ?_)
        | ((with_reducible show wpList _ _ _ (Oper.mk _ (Op.store _ _ _) _ _ _ _ :: _) _ _); refine wpList_store_room (w := w) rfl (.tmp 4) (.tmp 27) rfl (w.heap.size + 2) C9 rfl rfl h9 (there_later B1.out.room b9) ?_))
      have TT := Told.call B1.out b9 h9 v9
      exact bodyPost_ret (v := .agg C9) (results_st rfl _ (w.heap.size + 2) (by first | rfl | simp) TT.st _ TT.at_) rfl TT.post
  · go_simp
    refine hK.out _ _ ?_ (fun hHeld => ?_)
    · exact by repeat (first | exact hHeld | exact Below.refl _ _ | refine keep_alloc ?_ _ | refine keep_drew ?_ | exact (Below.refl _ _).drew)
    clear hK K
    try simp only [Act.put, List.setIfInBounds_toArray, List.set_cons_zero, List.set_cons_succ]
    refine wpAnyH_ready (rs := [4]) (by kernel_rfl) (by simp) (AllReadyH.cons (o := { dst := some 12, op := Op.call { callee := .value (.func 65), args := #[.tmp 10, .tmp 11], argTypes := #[37, 54] }, type := _, pos := _, after := _, guard := none }) rfl (fun K hK => ?_) AllReadyH.nil)
    go_simp
    refine (AD.out _ hHeld).mono ?_
    rintro e w3 ⟨rfl, hb3⟩
    have l3 : Hid (w0.heap.size ≤ w3.heap.size) := (bnext hHeld hb3).size
    refine hK.out _ _ ?_ (fun hHeld => ?_)
    · exact bnext hHeld hb3
    clear hK K
    try simp only [Act.put, List.setIfInBounds_toArray, List.set_cons_zero, List.set_cons_succ]
    refine wpAnyH_ready (rs := [13]) (by kernel_rfl) (by simp) (AllReadyH.cons (o := { dst := some 21, op := Op.call { callee := .value (.func 66), args := #[.tmp 9, .tmp 12, .tmp 17, .tmp 20], argTypes := #[35, 28, 28, 4] }, type := _, pos := _, after := _, guard := none }) rfl (fun K hK => ?_) AllReadyH.nil)
    go_simp
    refine (SV.out _ hHeld).mono ?_
    rintro e w4 ⟨rfl, hb4⟩
    have l4 : Hid (w0.heap.size ≤ w4.heap.size) := (bnext hHeld hb4).size
    refine hK.out _ _ ?_ (fun hHeld => ?_)
    · exact bnext hHeld hb4
    clear hK K
    try simp only [Act.put, List.setIfInBounds_toArray, List.set_cons_zero, List.set_cons_succ]
    refine wpAnyH_take (i := 14) (v := .tuple #[memV s.wt ma s.mn mc, .bool false]) rfl (by kernel_rfl) (by kernel_rfl) (by kernel_rfl) (fun _ _ _ h => h) (Or.inl ⟨by rfl, ?_⟩) (by assumption) ?_
    · intro w hSw; (try dsimp only at hSw); first | (go_simp; done) | (go_simp; with_reducible rfl)
    try simp only [Act.put, List.setIfInBounds_toArray, List.set_cons_zero, List.set_cons_succ]
    refine wpAnyH_take (i := 15) (v := memV s.wt ma s.mn mc) rfl (by kernel_rfl) (by kernel_rfl) (by kernel_rfl) (fun _ _ _ h => h) (Or.inl ⟨by rfl, ?_⟩) (by assumption) ?_
    · intro w hSw; (try dsimp only at hSw); unfold memV; first | (go_simp; done) | (go_simp; with_reducible rfl)
    try simp only [Act.put, List.setIfInBounds_toArray, List.set_cons_zero, List.set_cons_succ]
    refine wpAnyH_take (i := 16) (v := .bool false) rfl (by kernel_rfl) (by kernel_rfl) (by kernel_rfl) (fun _ _ _ h => h) (Or.inl ⟨by rfl, ?_⟩) (by assumption) ?_
    · intro w hSw; (try dsimp only at hSw); first | (go_simp; done) | (go_simp; with_reducible rfl)
    try simp only [Act.put, List.setIfInBounds_toArray, List.set_cons_zero, List.set_cons_succ]
    have hl9 := hHeld.size
    have T4 := (there_later (there_later (b := w0.heap.size) (o := 0) (n := 2) (by intro j hj; (try simp at hj); rcases j with _ | _ | j <;> first | (simp [go_sem]; done) | omega) hb3) hb4)
    refine wpAnyH_ready (rs := [18]) (by kernel_rfl) (by simp) (AllReadyH.cons (o := { dst := none, op := Op.store 35 (.tmp 5) (.tmp 22), type := _, pos := _, after := _, guard := none }) rfl (fun K hK => ?_) AllReadyH.nil)
    rw [if_pos (by rfl)]
    refine wp_store_mid 35 (.tmp 5) (.tmp 22) rfl (w0.heap.size) 0 #[.int .i64 s.wt, .slice ma s.mn mc] rfl rfl T4 mem_info2 (by simp [Value.oneCell']) ?_
    refine hK.out _ _ ?_ (fun hHeld => ?_)
    · exact below_setCells _ _ _ _ hHeld (Nat.le_refl _)
    clear hK K
    try simp only [Act.put, List.setIfInBounds_toArray, List.set_cons_zero, List.set_cons_succ]
    refine wpAnyH_take (i := 19) (v := .bool false) rfl (by kernel_rfl) (by kernel_rfl) (by kernel_rfl) (fun _ _ _ h => h) (Or.inl ⟨by rfl, ?_⟩) (by assumption) ?_
    · intro w hSw; (try dsimp only at hSw); first | (go_simp; done) | (go_simp; with_reducible rfl)
    try simp only [Act.put, List.setIfInBounds_toArray, List.set_cons_zero, List.set_cons_succ]
    refine wpAnyH_done (by kernel_rfl) ?_ _
    try simp only [Act.put, List.setIfInBounds_toArray, List.set_cons_zero, List.set_cons_succ]
    have ZZ : Hid ((w4.setCells (w0.heap.size) 0 #[.int .i64 s.wt, .slice ma s.mn mc].toList).cell? ⟨w0.heap.size, 0, none⟩ = some (.int .i64 s.wt) ∧ (w4.setCells (w0.heap.size) 0 #[.int .i64 s.wt, .slice ma s.mn mc].toList).cell? ⟨w0.heap.size, 1, none⟩ = some (.slice ma s.mn mc)) := mem_set _ _ T4
    have B1 : Hid (Boxed w (w4.setCells (w0.heap.size) 0 #[.int .i64 s.wt, .slice ma s.mn mc].toList) w.heap.size (w.heap.size + 2) C C s) := B0.out.later hHeld
    generalize w4.setCells (w0.heap.size) 0 #[.int .i64 s.wt, .slice ma s.mn mc].toList = w5 at ZZ B1 ⊢
    clear hHeld hb3 hb4 T4 hl9
    generalize w0.heap.size = g5 at ZZ ⊢
    obtain ⟨z0, z1⟩ := id ZZ.out
    clear x18 x19 xa xa' y0 y1 y2 y3 y4 ZZ AD SV
    go_wp2_with (first
      | (go_at_call 51; refine (fault_st B1.out.st 4).mono ?_; rintro e w9 ⟨C9, rfl, h9, v9, b9⟩)
      | ((with_reducible show wpList _ _ _ (Oper.mk _ (Op.load _ _) _ _ _ _ :: _) _ _); refine wpList_load_if (by rfl) 37 (.tmp 2) rfl w.heap.size 0 rfl C.toList _ (at_range B1.out.at_) Tryd.underlying37 rfl (st_info B1.out.st).2 ?_)
      | ((with_reducible show wpList _ _ _ (Oper.mk _ (Op.store _ _ _) _ _ _ _ :: _) _ _); refine wpList_store_room (w := w) rfl (.tmp 4) (.tmp 27) rfl (w.heap.size + 2) C9 rfl rfl h9 (there_later B1.out.room b9) ?_))
    have TT := Told.call B1.out b9 h9 v9
    exact bodyPost_ret (v := .agg C9) (results_st rfl _ (w.heap.size + 2) (by first | rfl | simp) TT.st _ TT.at_) rfl TT.post
end Go.Proofs.YtnpejnjigaalfaaDoor
