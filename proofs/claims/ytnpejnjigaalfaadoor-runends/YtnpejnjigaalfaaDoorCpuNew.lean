/- What the code's New returns. -/
import Derived.Test.YtnpejnjigaalfaaDoorRefNew
import Derived.Test.YtnpejnjigaalfaaDoorSliceLib
import Derived.Test.YtnpejnjigaalfaaDoorStore
import Derived.Test.YtnpejnjigaalfaaDoorCpuKit
namespace Go.Proofs.YtnpejnjigaalfaaDoor
open Go.ChangeShapes Go.WideShapes Go.ChangeAt Go.RowKit
set_option linter.unusedVariables false
set_option linter.unusedSimpArgs false
theorem bytes_rowK' {w : World} {a : Option Addr} {n : Nat} {f : Nat → Int} (h : Bytes w a n f) : RowK .u8 w a n f := ⟨fun i => by have := h.1 i; simp [Lit.wf, IntKind.min, IntKind.max, IntKind.signed, IntKind.bits]; omega, h.2⟩
theorem rowB_bytes' {w : World} {g n : Nat} {F : Nat → Int} (h : RowB w g n F) (hF : ∀ i, 0 ≤ F i ∧ F i < 256) : Bytes w (some ⟨g, 0, none⟩) n F :=
  ⟨hF, .inr ⟨g, 0, rfl, fun i hi => by rw [Nat.zero_add]; exact h.1 i hi⟩⟩
theorem made_zeros (n : Nat) : (madeCells #[Value.int .u8 0] n).toList = List.replicate n (.int .u8 0) := by
  refine List.ext_getElem (by simp [madeCells]) fun i h1 h2 => ?_
  simp [madeCells, Nat.mod_one]
theorem splice_zeros (dn mo : Nat) (df : Nat → Int) (k : Nat) (hk : k < dn + mo) : (splice (List.replicate (dn + mo) (Value.int .u8 0)) 0 (cellsK .u8 dn df))[k]? = some (.int .u8 (if k < dn then df k else 0)) := by
  unfold splice
  rw [List.take_zero, List.nil_append, Nat.zero_add, cellsK_len]
  by_cases h : k < dn
  · rw [if_pos h, List.getElem?_append_left (by rw [cellsK_len]; exact h)]
    exact cellsK_get _ _ _ _ h
  · rw [if_neg h, List.getElem?_append_right (by rw [cellsK_len]; omega), cellsK_len, List.drop_replicate, List.getElem?_replicate, if_pos (by omega)]
set_option maxRecDepth 100000 in
set_option maxHeartbeats 4000000 in
theorem new_post (w : World) (ca : Option Addr) (cn cc : Nat) (en : Int) (da : Option Addr) (dn dc : Nat) (df : Nat → Int) (wt : Int) (mo : Nat) (a : Option Addr) (n c : Nat) (f : Nat → Int)
    (hd : dn ≤ 2000) (hm : mo ≤ 2000) (hn : n ≤ 1000) (h1 : Head da dn dc) (h2 : Head a n c) (hD : Bytes w da dn df) (hI : Bytes w a n f) :
    Calls Tryd.prog 19 #[.agg (imageV ca cn cc en da dn dc wt mo), .slice a n c] w fun e w' => ∃ C', e = .returned (.agg C') ∧ IsSt w' (.agg C') (newZ en dn df wt mo n f) ∧
      (∃ g, C'[19]? = some (.slice (some ⟨g, 0, none⟩) (dn + mo) (dn + mo)) ∧ w.heap.size ≤ g ∧ g < w'.heap.size ∧ ∀ q, w'.frozen? ⟨g, q, none⟩ = false) ∧ (∀ x, x < w.heap.size → Avoids C' x) ∧ Below w.heap.size w w' := by
  have HA : Hid (Below w.heap.size w ((w.alloc (.cells (imageV ca cn cc en da dn dc wt mo) 25)).alloc (.cells zeroSt 37))) := ((Below.refl _ w).alloc (Nat.le_refl _) _).alloc (by simp) _
  have HD : Hid (Bytes w da dn df) := hD
  have HI : Hid (Bytes w a n f) := hI
  have Hz : Hid (#[Value.int .i64 0, .int .u32 0, .int .u32 0, .int .u32 0, .int .u32 0, .int .u32 0, .int .u32 0, .int .u32 0, .int .u32 0, .int .u32 0, .int .u32 0, .int .u32 0, .int .u32 0, .int .u32 0, .int .u32 0, .int .u32 0, .int .u32 0, .slice none 0 0, .int .i64 0, .slice none 0 0, .slice none 0 0, .slice none 0 0, .bool false, .int .u32 0, .int .i64 0] = zeroSt) := rfl
  obtain ⟨i0, hi0, hz0, hz1, hz2⟩ := info_parts info5
  have hmk : ∀ w, (Instr.makeSlice 23 (.int .i64 ((dn : Int) + mo)) (.int .i64 ((dn : Int) + mo))).run Tryd.prog w = .ok (.slice (some ⟨w.heap.size, 0, none⟩) (dn + mo) (dn + mo)) (w.alloc (.cells (madeCells #[.int .u8 0] (dn + mo)) 5)) := by
    intro w
    have h := run_make (P := Tryd.prog) w 23 5 i0 _ Tryd.underlying23 hi0 hz0 .i64 .i64 ((dn + mo : Nat) : Int) ((dn + mo : Nat) : Int) (by omega) (Int.le_refl _) (by rw [hz2]; omega) (by omega)
    simp only [hz1, Int.toNat_natCast, Nat.mul_one] at h
    rw [← Int.natCast_add]; exact h
  clear hD hI hi0 hz0 hz1 hz2
  go_enter Tryd.func19, Tryd.ntmps19
  go_upto_region 1 with fail
  rw [Hz.out]
  have X0 : Hid (∀ j v, (imageV ca cn cc en da dn dc wt mo)[j]? = some v → ((w.alloc (.cells (imageV ca cn cc en da dn dc wt mo) 25)).alloc (.cells zeroSt 37)).cell? ⟨w.heap.size, j, none⟩ = some v) := fun j v h => cell_later' (new_cell' w _ _ j v h) ((Below.refl _ _).alloc (Nat.le_refl _) _)
  have Z0 : Hid (((w.alloc (.cells (imageV ca cn cc en da dn dc wt mo) 25)).alloc (.cells zeroSt 37)).there (w.heap.size + 1) 0 25) := by
    have h := fresh_there (w.alloc (.cells (imageV ca cn cc en da dn dc wt mo) 25)) zeroSt zeroSt 37 rfl
    rwa [show (w.alloc (.cells (imageV ca cn cc en da dn dc wt mo) 25)).heap.size = w.heap.size + 1 from by simp] at h
  have l0 : w.heap.size + 1 < ((w.alloc (.cells (imageV ca cn cc en da dn dc wt mo) 25)).alloc (.cells zeroSt 37)).heap.size := by simp
  generalize (w.alloc (.cells (imageV ca cn cc en da dn dc wt mo) 25)).alloc (.cells zeroSt 37) = w0 at HA X0 Z0 l0 ⊢
  have x1 : w0.cell? ⟨w.heap.size, 1, none⟩ = some (.int .i64 en) := X0.out 1 _ rfl
  have x2 : w0.cell? ⟨w.heap.size, 2, none⟩ = some (.slice da dn dc) := X0.out 2 _ rfl
  have x3 : w0.cell? ⟨w.heap.size, 3, none⟩ = some (.int .i64 wt) := X0.out 3 _ rfl
  have x4 : w0.cell? ⟨w.heap.size, 4, none⟩ = some (.int .i64 mo) := X0.out 4 _ rfl
  clear X0 Hz
  go_upto_region 3 with fail
  have B4 : Hid (Below w0.heap.size w0 (w0.alloc (.cells (madeCells #[.int .u8 0] (dn + mo)) 5))) := (Below.refl _ _).alloc (Nat.le_refl _) _
  have G4 : Hid ((w0.alloc (.cells (madeCells #[.int .u8 0] (dn + mo)) 5)).heap[w0.heap.size]? = some (.cells (madeCells #[.int .u8 0] (dn + mo)).toList.toArray 5 (0, 0))) := alloc_row _ _ _
  rw [made_zeros] at G4
  generalize w0.alloc (.cells (madeCells #[.int .u8 0] (dn + mo)) 5) = w4 at B4 G4 ⊢
  have x2' := cell_later' x2 B4.out
  have lt0 : w.heap.size + 1 < w0.heap.size := l0
  generalize hg : w0.heap.size = g at G4 ⊢
  have hCr : Hid (0 < (cellsK .u8 dn df).length → ∃ ad, da = some ad ∧ ∀ j v, (cellsK .u8 dn df)[j]? = some v → w4.cell? (ad.add j) = some v) := by
    show _ → _
    intro h
    rw [cellsK_len] at h
    cases hda : da with
    | none => have := (head_nil h1 hda).1; omega
    | some ad => exact ⟨ad, rfl, bytes_cells ((HD.out.later HA.out).later B4.out) ad hda⟩
  clear hmk
  go_upto_region 4 with ((with_reducible show wpList _ _ _ (Oper.mk _ (Op.call { callee := .builtin .copy, args := _, argTypes := _ }) _ _ _ _ :: _) _ _); refine wpList_copy_splice rfl (.tmp 17) (.tmp 19) 23 23 rfl 5 Tryd.underlying23 (by kernel_rfl) _ _ _ _ _ _ rfl rfl g 0 (List.replicate (dn + mo) (.int .u8 0)) 5 G4.out (cellsK .u8 dn df) (by rw [cellsK_len]; exact (Nat.min_eq_left (by omega)).symm) (fun h => ⟨rfl, hCr.out h⟩) (by rw [cellsK_len, List.length_replicate]; omega) (cellsK_one _ _ _) w0.heap.size w0 B4.out (by omega) ?_; intro w5 G5 B5)
  have R5 : Hid (RowB w5 g (dn + mo) (fun k => if k < dn then df k else 0)) := rowB_of_heap G5.out (by rw [length_splice _ _ _ (by rw [cellsK_len, List.length_replicate]; omega), List.length_replicate]) (fun k hk => splice_zeros dn mo df k hk)
  have y1 := cell_later' x1 B5
  have y3 := cell_later' x3 B5
  have HIr : Hid (Bytes w5 a n f) := (HI.out.later HA.out).later B5
  have HB : Hid (Below w0.heap.size w0 w5) := B5
  have lg : g < w5.heap.size := R5.out.2.2
  clear x1 x2 x3 x4 x2' G4 G5 B4 B5 hCr
  refine wp_region_held_drew (S := fun w' => w'.cell? ⟨w.heap.size, 1, none⟩ = some (.int .i64 en) ∧ w'.cell? ⟨w.heap.size, 3, none⟩ = some (.int .i64 wt)) (by kernel_rfl) ?_ (fun hHeld => ?_)
  · exact ⟨y1, y3⟩
  refine wpAnyH_take (i := 0) (v := ?_) rfl (by kernel_rfl) (by kernel_rfl) (by kernel_rfl) (fun _ _ _ h => h) (Or.inl ⟨by rfl, ?_⟩) (by assumption) ?_
  rotate_left
  · intro w hSw; (try dsimp only at hSw); first | (go_simp; done) | (go_simp; with_reducible rfl)
  try simp only [Act.put, List.setIfInBounds_toArray, List.set_cons_zero, List.set_cons_succ]
  refine wpAnyH_take (i := 1) (v := .int .i64 en) rfl (by kernel_rfl) (by kernel_rfl) (by kernel_rfl) (fun _ _ _ h => h) (Or.inl ⟨by rfl, ?_⟩) (by assumption) ?_
  · intro w hSw; (try dsimp only at hSw); obtain ⟨s1, s3⟩ := hSw; first | (go_simp; done) | (go_simp; with_reducible rfl)
  try simp only [Act.put, List.setIfInBounds_toArray, List.set_cons_zero, List.set_cons_succ]
  refine wpAnyH_take (i := 2) (v := ?_) rfl (by kernel_rfl) (by kernel_rfl) (by kernel_rfl) (fun _ _ _ h => h) (Or.inl ⟨by rfl, ?_⟩) (by assumption) ?_
  rotate_left
  · intro w hSw; (try dsimp only at hSw); first | (go_simp; done) | (go_simp; with_reducible rfl)
  try simp only [Act.put, List.setIfInBounds_toArray, List.set_cons_zero, List.set_cons_succ]
  refine wpAnyH_take (i := 3) (v := .int .i64 wt) rfl (by kernel_rfl) (by kernel_rfl) (by kernel_rfl) (fun _ _ _ h => h) (Or.inl ⟨by rfl, ?_⟩) (by assumption) ?_
  · intro w hSw; (try dsimp only at hSw); obtain ⟨s1, s3⟩ := hSw; first | (go_simp; done) | (go_simp; with_reducible rfl)
  try simp only [Act.put, List.setIfInBounds_toArray, List.set_cons_zero, List.set_cons_succ]
  refine wpAnyH_take (i := 4) (v := ?_) rfl (by kernel_rfl) (by kernel_rfl) (by kernel_rfl) (fun _ _ _ h => h) (Or.inl ⟨by rfl, ?_⟩) (by assumption) ?_
  rotate_left
  · intro w hSw; (try dsimp only at hSw); first | (go_simp; done) | (go_simp; with_reducible rfl)
  try simp only [Act.put, List.setIfInBounds_toArray, List.set_cons_zero, List.set_cons_succ]
  refine wpAnyH_take (i := 5) (v := ?_) rfl (by kernel_rfl) (by kernel_rfl) (by kernel_rfl) (fun _ _ _ h => h) (Or.inl ⟨by rfl, ?_⟩) (by assumption) ?_
  rotate_left
  · intro w hSw; (try dsimp only at hSw); first | (go_simp; done) | (go_simp; with_reducible rfl)
  try simp only [Act.put, List.setIfInBounds_toArray, List.set_cons_zero, List.set_cons_succ]
  refine wpAnyH_take (i := 6) (v := ?_) rfl (by kernel_rfl) (by kernel_rfl) (by kernel_rfl) (fun _ _ _ h => h) (Or.inl ⟨by rfl, ?_⟩) (by assumption) ?_
  rotate_left
  · intro w hSw; (try dsimp only at hSw); first | (go_simp; done) | (go_simp; with_reducible rfl)
  try simp only [Act.put, List.setIfInBounds_toArray, List.set_cons_zero, List.set_cons_succ]
  have CL : Hid (∀ W, Below w5.heap.size w5 W → Calls Tryd.prog 33 #[.slice a n c] W fun e w' => ∃ a' c', e = .returned (.slice a' n c') ∧ (Head a' n c' ∧ RowK .u8 w' a' n f) ∧ (∀ x, a' = some x → W.heap.size ≤ x.block) ∧ Below W.heap.size W w') := fun W hW => clone_b W a n c f (by omega) h2 (bytes_rowK' (HIr.out.later hW))
  refine wpAnyH_ready (rs := [7]) (by kernel_rfl) (by simp) (AllReadyH.cons (o := { dst := some 28, op := Op.call { callee := .value (.func 33), args := #[.tmp 27], argTypes := #[23] }, type := _, pos := _, after := _, guard := none }) rfl (fun K hK => ?_) AllReadyH.nil)
  go_simp
  refine (CL.out _ (Below.refl _ _).drew).mono ?_
  rintro e w9 ⟨a9, c9, rfl, ⟨hh9, hr9⟩, hv9, hb9'⟩
  have hb9 : Below w5.heap.size w5 w9 := bnext (Below.refl _ _).drew hb9'
  refine hK.out _ _ ?_ (fun hHeld => ?_)
  · exact ⟨cell_later' y1 hb9, cell_later' y3 hb9⟩
  clear hK K
  try simp only [Act.put, List.setIfInBounds_toArray, List.set_cons_zero, List.set_cons_succ]
  refine wpAnyH_take (i := 8) (oi := { dst := some 29, op := Op.build 37 #[(0, .tmp 22), (3, .tmp 26), (4, .tmp 28)], type := _, pos := _, after := _, guard := none }) (v := ?_) rfl (by kernel_rfl) (by kernel_rfl) (by kernel_rfl) (fun _ _ _ h => h) (Or.inl ⟨by rfl, ?_⟩) (by assumption) ?_
  rotate_left
  · intro w hSw; (try dsimp only at hSw); first | (go_simp; done) | (go_simp; with_reducible rfl)
  try simp only [Act.put, List.setIfInBounds_toArray, List.set_cons_zero, List.set_cons_succ]
  obtain ⟨CC, eCC⟩ : ∃ CC : Array Value, CC = #[.int .i64 en, .int .u32 0, .int .u32 0, .int .u32 0, .int .u32 0, .int .u32 0, .int .u32 0, .int .u32 0, .int .u32 0, .int .u32 0, .int .u32 0, .int .u32 0, .int .u32 0, .int .u32 0, .int .u32 0, .int .u32 0, .int .u32 0, .slice none 0 0, .int .i64 wt, .slice (some ⟨g, 0, none⟩) (dn + mo) (dn + mo), .slice a9 n c9, .slice none 0 0, .bool false, .int .u32 0, .int .i64 0] := ⟨_, rfl⟩
  have o1 : Bytes w9 (some ⟨g, 0, none⟩) (dn + mo) (fun k => if k < dn then df k else 0) := (rowB_bytes' R5.out (fun i => by (try simp only []); split; exact HD.out.1 i; exact ⟨by omega, by omega⟩)).later hb9
  have HC : Hid (IsSt w9 (.agg CC) (newZ en dn df wt mo n f)) := by
    rw [eCC]
    exact ⟨none, 0, some ⟨g, 0, none⟩, dn + mo, a9, c9, none, 0, rfl, ⟨⟨Nat.le_refl _, fun _ => rfl⟩, ⟨fun _ => rfl, .inl rfl⟩⟩, ⟨⟨Nat.le_refl _, fun e => by cases e⟩, o1⟩, ⟨hh9, bytes_of_rowK hr9⟩, ⟨Nat.le_refl _, fun _ => rfl⟩, ⟨fun _ => by simp [newZ], .inl rfl⟩⟩
  have AV : Hid (Avoids CC (w.heap.size + 1)) := by
    refine avoids_of (s := newZ en dn df wt mo n f) (ba := none) (bc := 0) (ma := some ⟨g, 0, none⟩) (mc := dn + mo) (ia := a9) (ic := c9) (oa := none) (oc := 0) (by rw [eCC]; rfl) (fun _ e => by cases e) (fun x e hn => ?_) (fun x e hn => ?_) (fun _ e => by cases e)
    · cases e
      show g ≠ _
      omega
    · have h := hv9 x e
      simp at h
      omega
  have TH : Hid (w9.there (w.heap.size + 1) 0 CC.size) := by rw [(st_shape HC.out).1]; exact there_later (there_later Z0.out HB.out) hb9
  have B9 : Hid (Below w.heap.size w w9) := HA.out.trans ((HB.out.trans (hb9.mono HB.out.size)).mono HA.out.size)
  rw [← eCC]
  refine wpAnyH_ready (rs := [9]) (by kernel_rfl) (by simp) (AllReadyH.cons (o := { dst := none, op := Op.store 37 (.tmp 4) (.tmp 29), type := _, pos := _, after := _, guard := none }) rfl (fun K hK => ?_) AllReadyH.nil)
  rw [if_pos (by rfl)]
  refine wp_store_mid 37 (.tmp 4) (.tmp 29) rfl (w.heap.size + 1) 0 CC rfl rfl TH.out (st_info HC.out).1 (st_shape HC.out).2 ?_
  refine hK.out _ _ ?_ (fun hHeld => ?_)
  · exact ⟨(cell_setCells_far _ _ _ _ _ (by simp)).trans (cell_later' y1 hb9), (cell_setCells_far _ _ _ _ _ (by simp)).trans (cell_later' y3 hb9)⟩
  clear hK K
  refine wpAnyH_done (by kernel_rfl) ?_ _
  simp only [Act.put, List.setIfInBounds_toArray, List.set_cons_zero, List.set_cons_succ]
  have AT : Hid (At (w9.setCells (w.heap.size + 1) 0 CC.toList) (w.heap.size + 1) CC) := at_of_range (World.rangeAt_setCells_same w9 (w.heap.size + 1) 0 CC.toList (by rw [Array.length_toList]; exact TH.out))
  have IS : Hid (IsSt (w9.setCells (w.heap.size + 1) 0 CC.toList) (.agg CC) (newZ en dn df wt mo n f)) := IsSt.setAll AV.out _ _ _ HC.out
  have BL : Hid (Below w.heap.size w (w9.setCells (w.heap.size + 1) 0 CC.toList)) := below_setCells _ _ _ _ B9.out (by omega)
  have c19 : CC[19]? = some (.slice (some ⟨g, 0, none⟩) (dn + mo) (dn + mo)) := by rw [eCC]; rfl
  have MM : Hid (∃ g, CC[19]? = some (.slice (some ⟨g, 0, none⟩) (dn + mo) (dn + mo)) ∧ w.heap.size ≤ g ∧ g < (w9.setCells (w.heap.size + 1) 0 CC.toList).heap.size ∧ ∀ q, (w9.setCells (w.heap.size + 1) 0 CC.toList).frozen? ⟨g, q, none⟩ = false) :=
    ⟨g, c19, by omega, by rw [size_setCells]; exact Nat.lt_of_lt_of_le lg hb9.size, fun q => by rw [frozen_setCells]; exact (hb9.frozen (p := ⟨g, q, none⟩) lg).trans (R5.out.2.1 q)⟩
  have AX : Hid (∀ x, x < w.heap.size → Avoids CC x) := fun x hx => by
    refine avoids_of (s := newZ en dn df wt mo n f) (ba := none) (bc := 0) (ma := some ⟨g, 0, none⟩) (mc := dn + mo) (ia := a9) (ic := c9) (oa := none) (oc := 0) (by rw [eCC]; rfl) (fun _ e => by cases e) (fun y e hn => ?_) (fun y e hn => ?_) (fun _ e => by cases e)
    · cases e
      show g ≠ _
      omega
    · have h := hv9 y e
      simp at h
      omega
  clear hHeld TH AV B9 o1 eCC c19
  generalize w9.setCells (w.heap.size + 1) 0 CC.toList = wz at AT IS BL MM ⊢
  go_wp2_with fail
  refine bodyPost_ret (v := Value.agg CC) ?_ rfl ⟨CC, rfl, IS.out, MM.out, AX.out, BL.out⟩
  exact results_st rfl _ (w.heap.size + 1) (by first | rfl | simp) IS.out _ AT.out
end Go.Proofs.YtnpejnjigaalfaaDoor
