/- The document's own New. -/
import Derived.Test.YtnpejnjigaalfaaDoorCpuWords
import Derived.Deep.RegionHeld3
namespace Go.Proofs.YtnpejnjigaalfaaDoor
open Go.ChangeShapes Go.WideShapes Go.ChangeAt Go.RowKit
set_option linter.unusedVariables false
set_option linter.unusedSimpArgs false
/-- An image's value. -/
abbrev imageV (ca : Option Addr) (cn cc : Nat) (en : Int) (da : Option Addr) (dn dc : Nat) (wt mo : Int) : Array Value := #[.slice ca cn cc, .int .i64 en, .slice da dn dc, .int .i64 wt, .int .i64 mo]
def zeroSt : Array Value := #[.int .i64 0, .int .u32 0, .int .u32 0, .int .u32 0, .int .u32 0, .int .u32 0, .int .u32 0, .int .u32 0, .int .u32 0, .int .u32 0, .int .u32 0, .int .u32 0, .int .u32 0, .int .u32 0, .int .u32 0, .int .u32 0, .int .u32 0, .slice none 0 0, .int .i64 0, .slice none 0 0, .slice none 0 0, .slice none 0 0, .bool false, .int .u32 0, .int .i64 0]
set_option maxRecDepth 100000 in
set_option maxHeartbeats 4000000 in
theorem rnew_st (w : World) (ca : Option Addr) (cn cc : Nat) (en : Int) (da : Option Addr) (dn dc : Nat) (df : Nat → Int) (wt : Int) (mo : Nat) (a : Option Addr) (n c : Nat) (f : Nat → Int)
    (hd : dn ≤ 2000) (hm : mo ≤ 2000) (hn : n ≤ 1000) (h1 : Head da dn dc) (h2 : Head a n c) (hD : Bytes w da dn df) (hI : Bytes w a n f) :
    Calls Tryd.prog 11 #[.agg (imageV ca cn cc en da dn dc wt mo), .slice a n c] w fun e w' => ∃ C', e = .returned (.agg C') ∧ IsSt w' (.agg C') (newZ en dn df wt mo n f) ∧ Below w.heap.size w w' := by
  have HA : Hid (Below w.heap.size w ((w.alloc (.cells (imageV ca cn cc en da dn dc wt mo) 25)).alloc (.cells zeroSt 37))) := ((Below.refl _ w).alloc (Nat.le_refl _) _).alloc (by simp) _
  have HD : Hid (Bytes w da dn df) := hD
  have HI : Hid (Bytes w a n f) := hI
  have Hz : Hid (#[Value.int .i64 0, .int .u32 0, .int .u32 0, .int .u32 0, .int .u32 0, .int .u32 0, .int .u32 0, .int .u32 0, .int .u32 0, .int .u32 0, .int .u32 0, .int .u32 0, .int .u32 0, .int .u32 0, .int .u32 0, .int .u32 0, .int .u32 0, .slice none 0 0, .int .i64 0, .slice none 0 0, .slice none 0 0, .slice none 0 0, .bool false, .int .u32 0, .int .i64 0] = zeroSt) := rfl
  clear hD hI
  go_enter Tryd.func11, Tryd.ntmps11
  go_upto_region 1 with fail
  rw [Hz.out]
  have X0 : Hid (∀ j v, (imageV ca cn cc en da dn dc wt mo)[j]? = some v → ((w.alloc (.cells (imageV ca cn cc en da dn dc wt mo) 25)).alloc (.cells zeroSt 37)).cell? ⟨w.heap.size, j, none⟩ = some v) := fun j v h => cell_later' (new_cell' w _ _ j v h) ((Below.refl _ _).alloc (Nat.le_refl _) _)
  have Z0 : Hid (((w.alloc (.cells (imageV ca cn cc en da dn dc wt mo) 25)).alloc (.cells zeroSt 37)).there (w.heap.size + 1) 0 25) := by
    have h := fresh_there (w.alloc (.cells (imageV ca cn cc en da dn dc wt mo) 25)) zeroSt zeroSt 37 rfl
    rwa [show (w.alloc (.cells (imageV ca cn cc en da dn dc wt mo) 25)).heap.size = w.heap.size + 1 from by simp] at h
  have l0 : w.heap.size + 1 < ((w.alloc (.cells (imageV ca cn cc en da dn dc wt mo) 25)).alloc (.cells zeroSt 37)).heap.size := by simp
  generalize (w.alloc (.cells (imageV ca cn cc en da dn dc wt mo) 25)).alloc (.cells zeroSt 37) = w0 at HA X0 Z0 l0 ⊢
  have x1 : w0.cell? ⟨w.heap.size, 1, none⟩ = some (.int .i64 en) := X0.out 1 _ rfl
  have x2 : w0.cell? ⟨w.heap.size, 2, none⟩ = some (.slice da dn dc) := X0.out 2 _ rfl
  have x3 : w0.cell? ⟨w.heap.size, 3, none⟩ = some (.int .i64 wt) := X0.out 3 _ rfl
  have x4 : w0.cell? ⟨w.heap.size, 4, none⟩ = some (.int .i64 mo) := X0.out 4 _ rfl
  have lt0 : w.heap.size < w0.heap.size := by omega
  obtain ⟨i0, hi0, hz0, hz1, hz2⟩ := info_parts infoB
  clear X0 Hz
  go_upto_region 2 with (at_builtin; refine wpList_append_fresh w0 rfl (.tmp 7) (.tmp 9) 23 rfl 5 (.int .u8 0) 1 Tryd.underlying23 infoB rfl rfl da dn dc (cellsK .u8 dn df) rfl (cellsK_len _ _ _) (head_nil h1) (bytes_cells (HD.out.later HA.out)) (cellsK_one _ _ _) (by unfold maxLen; omega) (by omega) ?_; intro a1 c1 w1 own1 hb1)
  have K1 : Hid (w1.ownsRow w0.heap.size 5 1 (.slice a1 dn c1) dn (cellsK .u8 dn df)) := own1
  have K2 : Hid (w1.ownsRow w0.heap.size 5 1 (.slice a1 (dn + 0) c1) (dn + 0) (cellsK .u8 (dn + 0) (fun j => if j < dn then df j else 0))) := by
    have e : cellsK .u8 dn df = cellsK .u8 dn (fun j => if j < dn then df j else 0) := cellsK_congr _ _ fun j hj => by rw [if_pos hj]
    unfold Hid
    rw [Nat.add_zero, ← e]
    exact own1
  clear own1 K1
  go_wp2
  go_loopw [5, 6] (fun l i wr => ∃ (k : Nat) (a' : Option Addr) (c' : Nat), l = .slice a' (dn + k) c' ∧ i = .int .i64 k ∧ k ≤ mo ∧ wr.ownsRow w0.heap.size 5 1 (.slice a' (dn + k) c') (dn + k) (cellsK .u8 (dn + k) (fun j => if j < dn then df j else 0)) ∧ Below w0.heap.size w0 wr) (fun _ i _ => mo - (intOf i).toNat)
  case atStart => exact ⟨0, a1, c1, rfl, rfl, Nat.zero_le _, K2.out, hb1⟩
  case round =>
    obtain ⟨k, a', c', rfl, rfl, hk, hown, hbl⟩ := hrel
    have HO : Hid (wr.ownsRow w0.heap.size 5 1 (.slice a' (dn + k) c') (dn + k) (cellsK .u8 (dn + k) (fun j => if j < dn then df j else 0))) := hown
    have HB : Hid (Below w0.heap.size w0 wr) := hbl
    have y4 := cell_later' x4 hbl
    clear hown K2 hb1
    by_cases hlt : k < mo
    · clear hbl
      have hlt' : (k : Int) < mo := by omega
      go_wp2_with (at_builtin; refine wpList_append_all _ rfl (.tmp 17) (.tmp 18) 23 rfl w0.heap.size 5 i0 _ 1 1 Tryd.underlying23 hi0 hz0 hz1 hz2 rfl (by decide) (.slice a' (dn + k) c') (dn + k) (cellsK .u8 (dn + k) (fun j => if j < dn then df j else 0)) rfl (HO.out.alloc _) (some ⟨wr.heap.size, 0, none⟩) 1 1 (cellsK .u8 1 (fun _ => 0)) rfl rfl (fun e => by cases e) (fun ad ha j u hu => by simp only [Option.some.injEq] at ha; subst ha; rcases j with _ | j <;> simp [cellsK] at hu; subst hu; simp [Addr.add, go_sem]) (cellsK_one _ _ _) (by unfold maxLen; omega) (by omega) (by have := HB.out.size; simp; omega) ?_; intro a5 c5 w5 own5 hgrow5)
      go_roundw
      case rel => exact ⟨k + 1, a5, c5, rfl, by go_num, by omega, by
                    rw [cellsK_add] at own5
                    have e : cellsK .u8 (dn + k + 1) (fun j => if j < dn + k then (if j < dn then df j else 0) else 0) = cellsK .u8 (dn + k + 1) (fun j => if j < dn then df j else 0) := cellsK_congr _ _ fun j hj => by
                      by_cases h : j < dn + k
                      · rw [if_pos h]
                      · rw [if_neg h, if_neg (by omega)]
                    rw [e] at own5
                    exact own5, (HB.out.alloc HB.out.size _).grown hgrow5 (by have := HB.out.size; simp; omega) (fun q hq => (HO.out.lt q hq).1)⟩
      case measure => simp [intOf]; omega
    · obtain rfl : k = mo := by omega
      go_upto_region 6 with fail
      have y1 := cell_later' x1 HB.out
      have y3 := cell_later' x3 HB.out
      have HIr : Hid (Bytes wr a n f) := (HI.out.later HA.out).later HB.out
      clear x1 x2 x3 x4 y4 hbl hlt
      refine wp_region_held_drew (S := fun w' => w'.cell? ⟨w.heap.size, 1, none⟩ = some (.int .i64 en) ∧ w'.cell? ⟨w.heap.size, 3, none⟩ = some (.int .i64 wt)) (by kernel_rfl) ?_ (fun hHeld => ?_)
      · exact ⟨y1, y3⟩
      refine wpAnyH_take (i := 0) (v := ?_) rfl (by kernel_rfl) (by kernel_rfl) (by kernel_rfl) (fun _ _ _ h => h) (Or.inl ⟨by rfl, ?_⟩) (by assumption) ?_
      rotate_left
      · intro w hSw; (try dsimp only at hSw); first | (go_simp; done) | (go_simp; with_reducible rfl)
      try simp only [Act.put, List.setIfInBounds_toArray, List.set_cons_zero, List.set_cons_succ]
      refine wpAnyH_take (i := 1) (v := ?_) rfl (by kernel_rfl) (by kernel_rfl) (by kernel_rfl) (fun _ _ _ h => h) (Or.inl ⟨by rfl, ?_⟩) (by assumption) ?_
      rotate_left
      · intro w hSw; (try dsimp only at hSw); first | (go_simp; done) | (go_simp; with_reducible rfl)
      try simp only [Act.put, List.setIfInBounds_toArray, List.set_cons_zero, List.set_cons_succ]
      refine wpAnyH_take (i := 2) (v := ?_) rfl (by kernel_rfl) (by kernel_rfl) (by kernel_rfl) (fun _ _ _ h => h) (Or.inl ⟨by rfl, ?_⟩) (by assumption) ?_
      rotate_left
      · intro w hSw; (try dsimp only at hSw); first | (go_simp; done) | (go_simp; with_reducible rfl)
      try simp only [Act.put, List.setIfInBounds_toArray, List.set_cons_zero, List.set_cons_succ]
      refine wpAnyH_take (i := 3) (v := ?_) rfl (by kernel_rfl) (by kernel_rfl) (by kernel_rfl) (fun _ _ _ h => h) (Or.inl ⟨by rfl, ?_⟩) (by assumption) ?_
      rotate_left
      · intro w hSw; (try dsimp only at hSw); first | (go_simp; done) | (go_simp; with_reducible rfl)
      try simp only [Act.put, List.setIfInBounds_toArray, List.set_cons_zero, List.set_cons_succ]
      refine wpAnyH_take (i := 4) (v := ?_) rfl (by kernel_rfl) (by kernel_rfl) (by kernel_rfl) (fun _ _ _ h => h) (Or.inl ⟨by rfl, ?_⟩) (by assumption) ?_
      rotate_left
      · intro w hSw; (try dsimp only at hSw); first | (go_simp; done) | (go_simp; with_reducible rfl)
      try simp only [Act.put, List.setIfInBounds_toArray, List.set_cons_zero, List.set_cons_succ]
      refine wpAnyH_take (i := 5) (v := ?_) rfl (by kernel_rfl) (by kernel_rfl) (by kernel_rfl) (fun _ _ _ h => h) (Or.inl ⟨by rfl, ?_⟩) (by assumption) ?_
      rotate_left
      · intro w hSw; (try dsimp only at hSw); first | (go_simp; done) | (go_simp; with_reducible rfl)
      try simp only [Act.put, List.setIfInBounds_toArray, List.set_cons_zero, List.set_cons_succ]
      refine wpAnyH_take (i := 7) (v := ?_) rfl (by kernel_rfl) (by kernel_rfl) (by kernel_rfl) (fun _ _ _ h => h) (Or.inl ⟨by rfl, ?_⟩) (by assumption) ?_
      rotate_left
      · intro w hSw; (try dsimp only at hSw); first | (go_simp; done) | (go_simp; with_reducible rfl)
      try simp only [Act.put, List.setIfInBounds_toArray, List.set_cons_zero, List.set_cons_succ]
      refine wpAnyH_ready (rs := [6]) (by kernel_rfl) (by simp) (AllReadyH.cons rfl (fun K hK => ?_) AllReadyH.nil)
      go_simp
      refine hK.out _ _ ?_ (fun hHeld => ?_)
      · exact ⟨cell_later' y1 (keep_alloc (keep_drew (Below.refl _ _)) _), cell_later' y3 (keep_alloc (keep_drew (Below.refl _ _)) _)⟩
      clear hK K
      try simp only [Act.put, List.setIfInBounds_toArray, List.set_cons_zero, List.set_cons_succ]
      refine wpAnyH_ready (rs := [8]) (by kernel_rfl) (by simp) (AllReadyH.cons (o := { dst := some 28, op := Op.call { callee := .builtin .append, args := #[.tmp 26, .tmp 27], argTypes := #[23, 23] }, type := _, pos := _, after := _, guard := none }) rfl (fun K hK => ?_) AllReadyH.nil)
      refine step_append_empty _ (by rfl) (.tmp 26) (.tmp 27) 23 (by rfl) wr.heap.size 5 i0 _ 1 1 Tryd.underlying23 hi0 hz0 hz1 hz2 rfl (by decide) (wr.heap.size) (by rfl) (World.ownsRow_made (size := 1) wr #[] 0 (Nat.le_refl _) (Nat.zero_le _) rfl) a n c (cellsK .u8 n f) (by rfl) (by rw [cellsK_len, Nat.mul_one]) (head_nil h2) (bytes_cells (HIr.out.later (keep_alloc (keep_drew (Below.refl _ _)) _))) (cellsK_one _ _ _) (by unfold maxLen; omega) (by omega) (by simp) ?_
      intro a9 c9 w9 own9 hgrow9
      have hb9 : Below wr.heap.size wr w9 := Below.grown (keep_alloc (keep_drew (Below.refl _ _)) _) hgrow9 (by simp) (fun q hq => by have h := Option.some.inj hq; omega)
      refine hK.out _ _ ?_ (fun hHeld => ?_)
      · exact ⟨cell_later' y1 (hb9), cell_later' y3 (hb9)⟩
      clear hK K
      try simp only [Act.put, List.setIfInBounds_toArray, List.set_cons_zero, List.set_cons_succ]
      refine wpAnyH_take (i := 9) (oi := { dst := some 29, op := Op.build 37 #[(0, .tmp 21), (3, .tmp 25), (4, .tmp 28)], type := _, pos := _, after := _, guard := none }) (v := ?_) rfl (by kernel_rfl) (by kernel_rfl) (by kernel_rfl) (fun _ _ _ h => h) (Or.inl ⟨by rfl, ?_⟩) (by assumption) ?_
      rotate_left
      · intro w hSw; (try dsimp only at hSw); first | (go_simp; done) | (go_simp; with_reducible rfl)
      try simp only [Act.put, List.setIfInBounds_toArray, List.set_cons_zero, List.set_cons_succ]
      obtain ⟨CC, eCC⟩ : ∃ CC : Array Value, CC = #[.int .i64 en, .int .u32 0, .int .u32 0, .int .u32 0, .int .u32 0, .int .u32 0, .int .u32 0, .int .u32 0, .int .u32 0, .int .u32 0, .int .u32 0, .int .u32 0, .int .u32 0, .int .u32 0, .int .u32 0, .int .u32 0, .int .u32 0, .slice none 0 0, .int .i64 wt, .slice a' (dn + k) c', .slice a9 n c9, .slice none 0 0, .bool false, .int .u32 0, .int .i64 0] := ⟨_, rfl⟩
      have o1 := own_bytes HO.out (fun i => by split; exact HD.out.1 i; exact ⟨by omega, by omega⟩)
      have o2 := own_bytes own9 HI.out.1
      have HC : Hid (IsSt w9 (.agg CC) (newZ en dn df wt k n f)) := by
        rw [eCC]
        exact ⟨none, 0, a', c', a9, c9, none, 0, rfl, ⟨⟨Nat.le_refl _, fun _ => rfl⟩, ⟨fun _ => rfl, .inl rfl⟩⟩, ⟨o1.1, o1.2.later hb9⟩, o2, ⟨Nat.le_refl _, fun _ => rfl⟩, ⟨fun _ => by simp [newZ], .inl rfl⟩⟩
      have AV : Hid (Avoids CC (w.heap.size + 1)) := by
        refine avoids_of (s := newZ en dn df wt k n f) (ba := none) (bc := 0) (ma := a') (mc := c') (ia := a9) (ic := c9) (oa := none) (oc := 0) (by rw [eCC]; rfl) (fun _ e => by cases e) (fun x e hn => ?_) (fun x e hn => ?_) (fun _ e => by cases e)
        · have h := (HO.out.lt x.block (by
            rcases HO.out.2 with ⟨q, _⟩ | ⟨g, cap, cur, q, _⟩
            · simp only [Value.slice.injEq] at q; rw [q.1] at e; cases e
            · simp only [Value.slice.injEq] at q; rw [q.1] at e; cases e; rw [q.1]; rfl)).1
          omega
        · have h := (own9.lt x.block (by
            rcases own9.2 with ⟨q, _⟩ | ⟨g, cap, cur, q, _⟩
            · simp only [Value.slice.injEq] at q; rw [q.1] at e; cases e
            · simp only [Value.slice.injEq] at q; rw [q.1] at e; cases e; rw [q.1]; rfl)).1
          have := HB.out.size
          omega
      have TH : Hid (w9.there (w.heap.size + 1) 0 CC.size) := by rw [(st_shape HC.out).1]; exact there_later (there_later Z0.out HB.out) hb9
      have B9 : Hid (Below w.heap.size w w9) := HA.out.trans ((HB.out.trans (hb9.mono HB.out.size)).mono HA.out.size)
      rw [← eCC]
      refine wpAnyH_ready (rs := [10]) (by kernel_rfl) (by simp) (AllReadyH.cons (o := { dst := none, op := Op.store 37 (.tmp 4) (.tmp 29), type := _, pos := _, after := _, guard := none }) rfl (fun K hK => ?_) AllReadyH.nil)
      rw [if_pos (by rfl)]
      refine wp_store_mid 37 (.tmp 4) (.tmp 29) rfl (w.heap.size + 1) 0 CC rfl rfl TH.out (st_info HC.out).1 (st_shape HC.out).2 ?_
      refine hK.out _ _ ?_ (fun hHeld => ?_)
      · exact ⟨(cell_setCells_far _ _ _ _ _ (by simp)).trans (cell_later' y1 hb9), (cell_setCells_far _ _ _ _ _ (by simp)).trans (cell_later' y3 hb9)⟩
      clear hK K
      refine wpAnyH_done (by kernel_rfl) ?_ _
      simp only [Act.put, List.setIfInBounds_toArray, List.set_cons_zero, List.set_cons_succ]
      have AT : Hid (At (w9.setCells (w.heap.size + 1) 0 CC.toList) (w.heap.size + 1) CC) := at_of_range (World.rangeAt_setCells_same w9 (w.heap.size + 1) 0 CC.toList (by rw [Array.length_toList]; exact TH.out))
      have IS : Hid (IsSt (w9.setCells (w.heap.size + 1) 0 CC.toList) (.agg CC) (newZ en dn df wt k n f)) := IsSt.setAll AV.out _ _ _ HC.out
      have BL : Hid (Below w.heap.size w (w9.setCells (w.heap.size + 1) 0 CC.toList)) := below_setCells _ _ _ _ B9.out (by omega)
      clear hHeld TH AV B9 o1 o2 own9 hgrow9 eCC
      generalize w9.setCells (w.heap.size + 1) 0 CC.toList = wz at AT IS BL ⊢
      go_wp2_with fail
      refine bodyPost_ret (v := Value.agg CC) ?_ rfl ⟨CC, rfl, IS.out, BL.out⟩
      exact results_st rfl _ (w.heap.size + 1) (by first | rfl | simp) IS.out _ AT.out
end Go.Proofs.YtnpejnjigaalfaaDoor
