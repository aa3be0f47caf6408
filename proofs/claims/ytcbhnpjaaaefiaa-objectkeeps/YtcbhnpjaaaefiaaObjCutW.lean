/- The walk over beginnings of an object's bytes, and these with more behind. -/
import Derived.Test.YtcbhnpjaaaefiaaObjBackW
namespace Go.Proofs.Ytcbhnpjaaaefiaa
open Go.ChangeShapes Go.WideShapes Go.ChangeAt Go.RowKit
set_option linter.unusedVariables false
set_option linter.unusedSimpArgs false
theorem is_take {A : Nat → Prop} {w : World} {a : Option Addr} {c : Nat} {l : Bs} (h : IsBytes A w (.slice a l.length c) l) (k : Nat) (hk : k ≤ l.length) : IsBytes A w (.slice a k c) (l.take k) := by
  obtain ⟨⟨a', c', e, ⟨hh, hc⟩, hA, hl⟩, hb⟩ := h
  simp only [Value.slice.injEq] at e
  obtain ⟨rfl, _, rfl⟩ := e
  have hlen : (l.take k).length = k := by rw [List.length_take]; omega
  refine ⟨⟨a, c, by rw [hlen], ⟨⟨by rw [hlen]; have := hh.1; omega, hh.2⟩, hc⟩, hA, ?_⟩, fun x hx => hb x (List.mem_of_mem_take hx)⟩
  rcases hl with rfl | ⟨b, off, e, hx⟩
  · exact .inl (by simp)
  · refine .inr ⟨b, off, e, fun i x hi => hx i x ?_⟩
    rw [List.getElem?_take] at hi
    split at hi
    · exact hi
    · cases hi
set_option maxRecDepth 100000 in
set_option maxHeartbeats 8000000 in
theorem cut_walk (w : World) (v : Value) (p : ObjM) (h : IsObj (fun _ => True) w v p) (x y : Int) (hx : 0 ≤ x ∧ x < 65536) (hy : 0 ≤ y ∧ y < 256) : Calls Try.prog 7 #[v, .int .u16 x, .int .u8 y] w fun e w' => e = .returned (.bool true) ∧ Below w.heap.size w w' := by
  have AW : Hid (∀ W, Calls Try.prog 9 #[] W fun e w' => e = .returned (.bool true) ∧ Below W.heap.size W w') := awake9
  obtain ⟨fa, fc, da, dc, na, nc, rfl⟩ := h.open
  generalize p.funcs.length = F at h
  generalize p.datas.length = D at h
  generalize p.notes.length = N at h
  have FW : Hid (∀ W v, IsObj (fun _ => True) W v p → Calls Try.prog 10 #[v] W fun e w' => Says e (fewO p) ∧ Below W.heap.size W w') := fun W v h => few_any h
  have BC : Hid (∀ W, Below (w.alloc (.cells #[.slice fa F fc, .slice da D dc, .slice na N nc] 26)).heap.size (w.alloc (.cells #[.slice fa F fc, .slice da D dc, .slice na N nc] 26)) W →
    W.cell? ⟨w.heap.size, 0, none⟩ = some (.slice fa F fc) ∧ W.cell? ⟨w.heap.size, 1, none⟩ = some (.slice da D dc) ∧ W.cell? ⟨w.heap.size, 2, none⟩ = some (.slice na N nc) ∧ IsObj (fun _ => True) W (.agg #[.slice fa F fc, .slice da D dc, .slice na N nc]) p) := box_cells h _
  have UP : Hid (Below w.heap.size w (w.alloc (.cells #[.slice fa F fc, .slice da D dc, .slice na N nc] 26))) := keep_alloc8 (Below.refl _ _) _
  have HY : Hid (0 ≤ y ∧ y < 256) := hy
  have HX : Hid (0 ≤ x ∧ x < 65536) := hx
  clear h
  go_enter Try.func7, Try.ntmps7
  go_upto_region 1 with fail
  generalize w.alloc (.cells #[.slice fa F fc, .slice da D dc, .slice na N nc] 26) = w0 at BC UP ⊢
  by_cases hf : fewO p
  rotate_left
  · have HF : Hid (¬ fewO p) := hf
    clear hf
    go_upto_region 2 with (first
      | (go_at_call 9; refine (AW.out _).mono ?_; rintro e w1 ⟨rfl, b1⟩; obtain ⟨x0, x1, x2, ob⟩ := BC.out w1 b1)
      | (go_at_call 10; refine (FW.out _ _ ob).mono ?_; rintro e w2 ⟨hs, b2⟩; obtain rfl := hs.no HF.out; clear hs))
    go_wp2_with (go_at_call 9; refine (AW.out _).mono ?_; rintro e w3 ⟨rfl, b3⟩)
    go_ret
    exact ⟨rfl, bnext UP.out (bnext (bnext b1 b2) b3)⟩
  have HF : Hid (fewO p) := hf
  clear hf
  go_upto_region 3 with (first
    | (go_at_call 9; refine (AW.out _).mono ?_; rintro e w1 ⟨rfl, b1⟩; obtain ⟨x0, x1, x2, ob⟩ := BC.out w1 b1)
    | (go_at_call 10; refine (FW.out _ _ ob).mono ?_; rintro e w2 ⟨hs, b2⟩; obtain rfl := hs.yes HF.out; clear hs))
  have B2 : Hid (Below w0.heap.size w0 w2) := bnext b1 b2
  clear b1 b2 x0 x1 x2 ob
  obtain ⟨x0, x1, x2, ob⟩ := BC.out w2 B2.out
  have CW : Hid (Calls Try.prog 11 #[.agg #[.slice fa F fc, .slice da D dc, .slice na N nc]] w2 (WritePost w2 p)) := cwrite ob HF.out
  by_cases hok : objOk p
  rotate_left
  · have OK : Hid (¬ objOk p) := hok
    clear hok
    go_wp2_with (go_at_call 11; refine CW.out.mono ?_; rintro e W0 ⟨⟨h1, -⟩ | h1, b3⟩; exact absurd h1 OK.out; obtain ⟨-, a3, c3, rfl⟩ := h1)
    go_ret
    exact ⟨rfl, bnext UP.out (bnext B2.out b3)⟩
  have OK : Hid (objOk p) := hok
  clear hok
  go_upto_region 6 with (go_at_call 11; refine CW.out.mono ?_; rintro e w3 ⟨h1 | ⟨h1, -⟩, b3⟩; obtain ⟨-, v3, rfl, o3⟩ := h1; rotate_left; exact absurd OK.out h1)
  have BW : Hid (Below w.heap.size w w3) := bnext UP.out (bnext B2.out b3)
  obtain ⟨a3, c3, rfl⟩ := own_form o3
  have V3 : Hid (IsBytes (Fresh w2.heap.size w3) w3 (.slice a3 (objW p).length c3) (objW p)) := own_is o3 (objW_byt' OK.out)
  have hshort := objW_short OK.out
  have hlong : 4 ≤ (objW p).length := by unfold objW; rw [List.length_append]; have : splL.length = 4 := rfl; omega
  obtain ⟨T, eT⟩ : ∃ T, objW p = T := ⟨_, rfl⟩
  obtain ⟨n, en⟩ : ∃ n, T.length = n := ⟨_, rfl⟩
  rw [eT] at V3 hshort hlong ⊢
  rw [en] at V3 hshort hlong ⊢
  have ET : Hid (objW p = T ∧ T.length = n) := ⟨eT, en⟩
  clear b3 x0 x1 x2 ob CW B2 eT o3 en BC
  have hn1 : (4 : Int) ≤ n := by omega
  have hn2 : (n : Int) ≤ 1900010 := by omega
  obtain ⟨k, hk⟩ := Int.eq_ofNat_of_zero_le (Int.emod_nonneg x (by omega : (n : Int) ≠ 0))
  have hkn : k < n := by have := Int.emod_lt_of_pos x (by omega : (0 : Int) < n); omega
  have htm : x.tmod n = k := by rw [Int.tmod_eq_emod_of_nonneg hx.1]; exact hk
  have hkn' : (k : Int) ≤ n := by omega
  have S1 : ∀ W, (Instr.slice 29 (.slice a3 n c3) none (some (.int .i64 (k : Int))) none).run Try.prog W = .ok (.slice a3 k c3) W := fun W => slice_first9 W a3 n c3 k (by omega) (by obtain ⟨a', c', e, hh, -⟩ := V3.out.1; simp only [Value.slice.injEq] at e; have := hh.1.1; have := ET.out.2; omega)
  have hw : IntKind.i64.wrap x = x := wrap_small hx.1 (by omega)
  have CR : Hid (Calls Try.prog 15 #[.slice a3 k c3] w3 (ReadPost w3 (T.take k))) := cread (is_take (by have h := V3.out; rwa [← ET.out.2] at h) k (by have := ET.out.2; omega)) (by rw [List.length_take]; have := ET.out.2; omega)
  have RC : Hid ((readO (T.take k)).2 ≠ 0) := by
    have h := read_cut p OK.out (objW_byt' OK.out) k (by rw [ET.out.1, ET.out.2]; exact hkn)
    rwa [ET.out.1] at h
  go_upto_region 7 with (go_at_call 15; refine CR.out.mono ?_; rintro e w4 ⟨⟨u, rfl, hu, -⟩, b4⟩; obtain ⟨ga, gc, ea, ec, oa, oc, rfl⟩ := hu.open)
  have B5 : Hid (Below w3.heap.size w3 (w4.alloc (.cells #[.slice ga (readO (T.take k)).1.funcs.length gc, .slice ea (readO (T.take k)).1.datas.length ec, .slice oa (readO (T.take k)).1.notes.length oc] 26))) := keep_alloc8 b4 _
  generalize w4.alloc (.cells #[.slice ga (readO (T.take k)).1.funcs.length gc, .slice ea (readO (T.take k)).1.datas.length ec, .slice oa (readO (T.take k)).1.notes.length oc] 26) = w5 at B5 ⊢
  clear hu b4 CR S1 htm hk
  have ne1 : ((readO (T.take k)).2 != 0) = true := by simpa using RC.out
  generalize (readO (T.take k)).2 = er at ne1 ⊢
  have SR : Hid (∀ W, Below w3.heap.size w3 W → Src W a3 c3 T) := fun W hW => by
    obtain ⟨a', c', e, ⟨hh, -⟩, hb, -⟩ := (V3.out.keep (Stay.of_below hW)).row
    rw [ET.out.2] at e hh hb
    simp only [Value.slice.injEq] at e
    obtain ⟨rfl, -, rfl⟩ := e
    exact src_bytes ET.out.2 hh hb
  have O0 : Hid (OwnB w5.heap.size (w5.alloc (.cells #[] 5)) (.slice (some ⟨w5.heap.size, 0, none⟩) 0 0) []) := World.ownsRow_made w5 #[] 0 (Nat.le_refl _) (Nat.zero_le _) rfl
  have U0 : Hid (Below w5.heap.size w5 (w5.alloc (.cells #[] 5))) := keep_alloc8 (Below.refl _ _) _
  have RM : Hid (readO (T ++ [y]) = (noObj, 2)) := by rw [← ET.out.1]; exact read_more p OK.out y []
  have BY : Hid (Byt (T ++ [y])) := Byt.app (by rw [← ET.out.1]; exact objW_byt' OK.out) (fun z hz => by simp at hz; subst hz; exact HY.out)
  go_upto_region 8 with (first
    | (have z := O6; go_at_call 15; refine (cread (own_is o7 BY.out) (by rw [List.length_append, ET.out.2]; show n + 1 ≤ 2000000; omega)).mono ?_; rintro e w8 ⟨⟨u, rfl, hu, -⟩, b8⟩; rw [RM.out] at hu ⊢; dsimp only at hu ⊢; obtain ⟨ga, gc, ea, ec, oa, oc, rfl⟩ := hu.open)
    | (at_builtin; refine wpList_app9 rfl (.tmp 40) (.tmp 41) rfl w5.heap.size _ [] rfl O0.out a3 n c3 T rfl ET.out.2 (SR.out _ (bnext B5.out U0.out)) (by show 0 + n ≤ 3000000; omega) U0.out.size ?_; intro v6 w6 o6 b6 g6; have O6 : Hid (OwnB w5.heap.size w6 v6 T) := o6)
    | (at_builtin; refine wpList_app9 rfl (.tmp 42) (.tmp 44) rfl w5.heap.size _ T rfl (O6.out.later (keep_alloc8 (Below.refl _ _) _)) (some ⟨w6.heap.size, 0, none⟩) 1 1 [y] rfl rfl (src_new w6 #[.int .u8 y] _ [y] rfl 1) (by rw [ET.out.2]; omega) (Nat.le_trans U0.out.size (Nat.le_trans (b6.mono (Nat.le_refl _)).size (keep_alloc8 (Below.refl _ w6) _).size)) ?_; intro v7 w7 o7 b7 g7))
  go_wp2
  go_ret
  have q1 : Below w5.heap.size w5 w6 := U0.out.trans b6
  have q2 : Below w5.heap.size w5 w7 := q1.trans (((keep_alloc8 (Below.refl _ w6) (.cells #[.int .u8 y] 5)).mono q1.size).trans b7)
  exact ⟨rfl, bnext BW.out (bnext B5.out (bnext q2 (keep_alloc8 b8 _)))⟩
end Go.Proofs.Ytcbhnpjaaaefiaa
