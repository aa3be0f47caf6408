/- The walk over what is written and read again. -/
import Derived.Test.YtcbhnpjaaaefiaaObjWritesW
namespace Go.Proofs.Ytcbhnpjaaaefiaa
open Go.ChangeShapes Go.WideShapes Go.ChangeAt Go.RowKit
set_option linter.unusedVariables false
set_option linter.unusedSimpArgs false
theorem ok_few {p : ObjM} (h : objOk p) : fewO p :=
  ⟨⟨by have := h.1.1; omega, by have := h.2.1.1; omega, by have := h.2.2.1; omega⟩, (fun f hf => by have k := h.1.2 f hf; exact ⟨by have := k.2.2.1.1; omega, by have := k.2.2.2.1; omega, by have := named_len k.1; omega⟩), fun d hd => by have k := h.2.1.2 d hd; exact ⟨by have := k.2.2.2.2.1.1; omega, by have := k.2.2.2.2.2.1; omega, by have := named_len k.1; omega⟩⟩
theorem objW_short {p : ObjM} (h : objOk p) : (objW p).length ≤ 1900010 := by
  have := objW_len p h
  have e : (objW p).length = 4 + ((2 + (flatW funcW p.funcs).length) + ((2 + (flatW dataW p.datas).length) + (2 + (flatW noteW p.notes).length))) := by
    unfold objW listW
    simp only [List.length_append, digL_len]
    rfl
  omega
set_option maxRecDepth 100000 in
set_option maxHeartbeats 8000000 in
theorem back_walk (w : World) (v : Value) (p : ObjM) (h : IsObj (fun _ => True) w v p) (v' : Value) (l : Bs) (h' : IsBytes (fun _ => True) w v' l) : Calls Try.prog 5 #[v, v'] w fun e w' => e = .returned (.bool true) ∧ Below w.heap.size w w' := by
  have AW : Hid (∀ W, Calls Try.prog 9 #[] W fun e w' => e = .returned (.bool true) ∧ Below W.heap.size W w') := awake9
  obtain ⟨fa, fc, da, dc, na, nc, rfl⟩ := h.open
  generalize p.funcs.length = F at h
  generalize p.datas.length = D at h
  generalize p.notes.length = N at h
  obtain ⟨a, c, rfl, ⟨hh, hc⟩, -, -⟩ := h'.row
  have FW : Hid (∀ W v, IsObj (fun _ => True) W v p → Calls Try.prog 10 #[v] W fun e w' => Says e (fewO p) ∧ Below W.heap.size W w') := fun W v h => few_any h
  have BC : Hid (∀ W, Below (w.alloc (.cells #[.slice fa F fc, .slice da D dc, .slice na N nc] 26)).heap.size (w.alloc (.cells #[.slice fa F fc, .slice da D dc, .slice na N nc] 26)) W →
    W.cell? ⟨w.heap.size, 0, none⟩ = some (.slice fa F fc) ∧ W.cell? ⟨w.heap.size, 1, none⟩ = some (.slice da D dc) ∧ W.cell? ⟨w.heap.size, 2, none⟩ = some (.slice na N nc) ∧ IsObj (fun _ => True) W (.agg #[.slice fa F fc, .slice da D dc, .slice na N nc]) p) := box_cells h _
  have UP : Hid (Below w.heap.size w (w.alloc (.cells #[.slice fa F fc, .slice da D dc, .slice na N nc] 26))) := keep_alloc8 (Below.refl _ _) _
  have V0 : Hid (IsBytes (fun _ => True) (w.alloc (.cells #[.slice fa F fc, .slice da D dc, .slice na N nc] 26)) (.slice a l.length c) l) := h'.keep (Stay.of_below UP.out)
  clear h h' hh hc
  go_enter Try.func5, Try.ntmps5
  go_upto_region 1 with fail
  generalize w.alloc (.cells #[.slice fa F fc, .slice da D dc, .slice na N nc] 26) = w0 at BC UP V0 ⊢
  by_cases hf : fewO p
  rotate_left
  · have HF : Hid (¬ fewO p) := hf
    clear hf
    go_upto_region 2 with (first
      | (go_at_call 9; refine (AW.out _).mono ?_; rintro e w1 ⟨rfl, b1⟩; obtain ⟨x0, x1, x2, ob⟩ := BC.out w1 b1)
      | (go_at_call 10; refine (FW.out _ _ ob).mono ?_; rintro e w2 ⟨hs, b2⟩; obtain rfl := hs.no HF.out; clear hs))
    go_wp2_with (go_at_call 9; refine (AW.out _).mono ?_; rintro e w3 ⟨rfl, b3⟩)
    go_ret
    exact ⟨rfl, bnext UP.out (bnext (bnext b1 b2) b3)⟩
  have HF : Hid (fewO p) := hf
  clear hf
  by_cases hl : (l.length : Int) ≤ 20000
  rotate_left
  · have hl' : (20000 : Int) < l.length := by omega
    go_upto_region 2 with (first
      | (go_at_call 9; refine (AW.out _).mono ?_; rintro e w1 ⟨rfl, b1⟩; obtain ⟨x0, x1, x2, ob⟩ := BC.out w1 b1)
      | (go_at_call 10; refine (FW.out _ _ ob).mono ?_; rintro e w2 ⟨hs, b2⟩; obtain rfl := hs.yes HF.out; clear hs))
    go_wp2_with (go_at_call 9; refine (AW.out _).mono ?_; rintro e w3 ⟨rfl, b3⟩)
    go_ret
    exact ⟨rfl, bnext UP.out (bnext (bnext b1 b2) b3)⟩
  have HL : Hid (l.length ≤ 20000) := by unfold Hid; omega
  go_upto_region 3 with (first
    | (go_at_call 9; refine (AW.out _).mono ?_; rintro e w1 ⟨rfl, b1⟩; obtain ⟨x0, x1, x2, ob⟩ := BC.out w1 b1)
    | (go_at_call 10; refine (FW.out _ _ ob).mono ?_; rintro e w2 ⟨hs, b2⟩; obtain rfl := hs.yes HF.out; clear hs))
  have B2 : Hid (Below w0.heap.size w0 w2) := bnext b1 b2
  clear b1 b2 x0 x1 x2 ob
  obtain ⟨x0, x1, x2, ob⟩ := BC.out w2 B2.out
  have CW : Hid (Calls Try.prog 11 #[.agg #[.slice fa F fc, .slice da D dc, .slice na N nc]] w2 (WritePost w2 p)) := cwrite ob HF.out
  by_cases hok : objOk p
  · have OK : Hid (objOk p) := hok
    clear hok
    go_upto_region 5 with (go_at_call 11; refine CW.out.mono ?_; rintro e w3 ⟨h1 | ⟨h1, -⟩, b3⟩; obtain ⟨-, v3, rfl, o3⟩ := h1; rotate_left; exact absurd OK.out h1)
    have B3 : Hid (Below w0.heap.size w0 w3) := bnext B2.out b3
    have CR : Hid (Calls Try.prog 15 #[v3] w3 (ReadPost w3 (objW p))) := cread (own_is o3 (objW_byt' OK.out)) (by have := objW_short OK.out; omega)
    clear b3 x0 x1 x2 ob o3 CW B2
    go_upto_region 6 with (go_at_call 15; refine CR.out.mono ?_; rintro e w4 ⟨⟨u, rfl, hu, -⟩, b4⟩; rw [read_write p OK.out] at hu ⊢; dsimp only at hu ⊢; obtain ⟨ga, gc, ea, ec, oa, oc, rfl⟩ := hu.open)
    have B4 : Hid (Below w0.heap.size w0 (w4.alloc (.cells #[.slice ga p.funcs.length gc, .slice ea p.datas.length ec, .slice oa p.notes.length oc] 26))) := keep_alloc8 (bnext B3.out b4) _
    have BQ : Hid (∀ W, Below (w4.alloc (.cells #[.slice ga p.funcs.length gc, .slice ea p.datas.length ec, .slice oa p.notes.length oc] 26)).heap.size (w4.alloc (.cells #[.slice ga p.funcs.length gc, .slice ea p.datas.length ec, .slice oa p.notes.length oc] 26)) W →
      W.cell? ⟨w4.heap.size, 0, none⟩ = some (.slice ga p.funcs.length gc) ∧ W.cell? ⟨w4.heap.size, 1, none⟩ = some (.slice ea p.datas.length ec) ∧ W.cell? ⟨w4.heap.size, 2, none⟩ = some (.slice oa p.notes.length oc) ∧ IsObj (Fresh w3.heap.size w4) W (.agg #[.slice ga p.funcs.length gc, .slice ea p.datas.length ec, .slice oa p.notes.length oc]) p) := box_cells hu _
    clear b4 hu CR
    generalize p.funcs.length = G at BQ B4 ⊢
    generalize p.datas.length = E9 at BQ B4 ⊢
    generalize p.notes.length = O9 at BQ B4 ⊢
    generalize w4.alloc (.cells #[.slice ga G gc, .slice ea E9 ec, .slice oa O9 oc] 26) = w5 at BQ B4 ⊢
    generalize w4.heap.size = X4 at BQ ⊢
    generalize Fresh w3.heap.size w4 = A4 at BQ
    obtain ⟨x0, x1, x2, ob⟩ := BC.out w5 B4.out
    obtain ⟨y0, y1, y2, oq⟩ := BQ.out w5 (Below.refl _ _)
    have CS : Hid (Calls Try.prog 18 #[.agg #[.slice ga G gc, .slice ea E9 ec, .slice oa O9 oc], .agg #[.slice fa F fc, .slice da D dc, .slice na N nc]] w5 fun e w' => Says e (p = p) ∧ Below w5.heap.size w5 w') := csame oq ob
    have RS : Hid (∀ W, Below w5.heap.size w5 W → Calls Try.prog 17 #[.agg #[.slice ga G gc, .slice ea E9 ec, .slice oa O9 oc], .agg #[.slice fa F fc, .slice da D dc, .slice na N nc]] W fun e w' => Says e (p = p) ∧ Below W.heap.size W w') := fun W hW => rsame9_any (oq.keep (Stay.of_below hW)) (ob.keep (Stay.of_below hW))
    clear ob oq
    go_upto_region 8 with (first
      | (go_at_call 18; refine CS.out.mono ?_; rintro e w6 ⟨hs, b6⟩; obtain rfl := hs.yes (by first | rfl | trivial); replace x0 := cell_later' x0 b6; replace x1 := cell_later' x1 b6; replace x2 := cell_later' x2 b6; replace y0 := cell_later' y0 b6; replace y1 := cell_later' y1 b6; replace y2 := cell_later' y2 b6; clear hs)
      | (go_at_call 17; refine (RS.out _ b6).mono ?_; rintro e W0 ⟨hs, b7⟩; obtain rfl := hs.yes (by first | rfl | trivial); clear hs))
    have BW : Hid (Below w.heap.size w W0) := bnext UP.out (bnext B4.out (bnext b6 b7))
    have VB : Hid (IsBytes (fun _ => True) W0 (.slice a l.length c) l) := V0.out.keep (Stay.of_below (bnext B4.out (bnext b6 b7)))
    clear b6 b7 x0 x1 x2 y0 y1 y2 CS RS BQ B4 B3
    have CR : Hid (Calls Try.prog 15 #[.slice a l.length c] W0 (ReadPost W0 l)) := cread VB.out (by have := HL.out; omega)
    go_upto_region 9 with (go_at_call 15; refine CR.out.mono ?_; rintro e w7 ⟨⟨u, rfl, hu, -⟩, b7⟩; obtain ⟨ga, gc, ea, ec, oa, oc, rfl⟩ := hu.open)
    have hr := read_kind l
    have hb9 := read_back l VB.out.2
    obtain ⟨er, hrr⟩ : ∃ er, readO l = er := ⟨_, rfl⟩
    obtain ⟨q, er⟩ := er
    rw [hrr] at hu hr hb9 ⊢
    dsimp only at hu hr hb9 ⊢
    have VB7 : Hid (IsBytes (fun _ => True) (w7.alloc (.cells #[.slice ga q.funcs.length gc, .slice ea q.datas.length ec, .slice oa q.notes.length oc] 26)) (.slice a l.length c) l) := (VB.out.keep (Stay.of_below b7)).keep (Stay.of_below (keep_alloc8 (Below.refl _ _) _))
    have B7 : Hid (Below w.heap.size w (w7.alloc (.cells #[.slice ga q.funcs.length gc, .slice ea q.datas.length ec, .slice oa q.notes.length oc] 26))) := keep_alloc8 (bnext BW.out b7) _
    have BQ := box_cells hu 26
    obtain ⟨y0, y1, y2, oq⟩ := BQ _ (Below.refl _ _)
    clear BQ hu b7 CR VB BW hrr
    generalize q.funcs.length = G at *
    generalize q.datas.length = E9 at *
    generalize q.notes.length = O9 at *
    generalize w7.alloc (.cells #[.slice ga G gc, .slice ea E9 ec, .slice oa O9 oc] 26) = w8 at VB7 B7 y0 y1 y2 oq ⊢
    generalize w7.heap.size = X7 at y0 y1 y2 ⊢
    by_cases he : er = 0
    · subst he
      obtain ⟨e1, ok⟩ := hb9 rfl
      have OK : Hid (objOk q ∧ l = objW q) := ⟨ok, e1⟩
      have CW : Hid (Calls Try.prog 11 #[.agg #[.slice ga G gc, .slice ea E9 ec, .slice oa O9 oc]] w8 (WritePost w8 q)) := cwrite oq (ok_few ok)
      clear e1 ok hr hb9 oq
      go_upto_region 12 with (go_at_call 11; refine CW.out.mono ?_; rintro e w9 ⟨h1 | ⟨h1, -⟩, b9⟩; obtain ⟨-, v9, rfl, o9⟩ := h1; rotate_left; exact absurd OK.out.1 h1)
      have SM : Hid (Calls Try.prog 13 #[v9, .slice a l.length c] w9 fun e w' => Says e (objW q = l) ∧ Below w9.heap.size w9 w') := rbytes_any (own_is o9 (objW_byt' OK.out.1)) (VB7.out.keep (Stay.of_below b9))
      go_wp2_with (go_at_call 13; refine SM.out.mono ?_; rintro e w10 ⟨hs, b10⟩; obtain rfl := hs.yes OK.out.2.symm)
      go_ret
      exact ⟨rfl, bnext B7.out (bnext b9 b10)⟩
    · have ne : (er != 0) = true := by simpa using he
      have hq : q = noObj := hr.2 he
      have HQ : Hid (q = noObj) := hq
      have CS : Hid (Calls Try.prog 18 #[.agg #[.slice ga G gc, .slice ea E9 ec, .slice oa O9 oc], .agg #[.slice none 0 0, .slice none 0 0, .slice none 0 0]] w8 fun e w' => Says e (q = noObj) ∧ Below w8.heap.size w8 w') := csame oq (nil_obj (fun _ => True) w8)
      clear he hq hr hb9 oq
      go_wp2_with (go_at_call 18; refine CS.out.mono ?_; rintro e w9 ⟨hs, b9⟩; obtain rfl := hs.yes HQ.out)
      go_ret
      exact ⟨rfl, bnext B7.out b9⟩
  · have OK : Hid (¬ objOk p) := hok
    clear hok
    go_upto_region 8 with (go_at_call 11; refine CW.out.mono ?_; rintro e W0 ⟨⟨h1, -⟩ | h1, b3⟩; exact absurd h1 OK.out; obtain ⟨-, a3, c3, rfl⟩ := h1)
    have BW : Hid (Below w.heap.size w W0) := bnext UP.out (bnext B2.out b3)
    have VB : Hid (IsBytes (fun _ => True) W0 (.slice a l.length c) l) := V0.out.keep (Stay.of_below (bnext B2.out b3))
    clear b3 x0 x1 x2 ob CW B2
    have CR : Hid (Calls Try.prog 15 #[.slice a l.length c] W0 (ReadPost W0 l)) := cread VB.out (by have := HL.out; omega)
    go_upto_region 9 with (go_at_call 15; refine CR.out.mono ?_; rintro e w7 ⟨⟨u, rfl, hu, -⟩, b7⟩; obtain ⟨ga, gc, ea, ec, oa, oc, rfl⟩ := hu.open)
    have hr := read_kind l
    have hb9 := read_back l VB.out.2
    obtain ⟨er, hrr⟩ : ∃ er, readO l = er := ⟨_, rfl⟩
    obtain ⟨q, er⟩ := er
    rw [hrr] at hu hr hb9 ⊢
    dsimp only at hu hr hb9 ⊢
    have VB7 : Hid (IsBytes (fun _ => True) (w7.alloc (.cells #[.slice ga q.funcs.length gc, .slice ea q.datas.length ec, .slice oa q.notes.length oc] 26)) (.slice a l.length c) l) := (VB.out.keep (Stay.of_below b7)).keep (Stay.of_below (keep_alloc8 (Below.refl _ _) _))
    have B7 : Hid (Below w.heap.size w (w7.alloc (.cells #[.slice ga q.funcs.length gc, .slice ea q.datas.length ec, .slice oa q.notes.length oc] 26))) := keep_alloc8 (bnext BW.out b7) _
    have BQ := box_cells hu 26
    obtain ⟨y0, y1, y2, oq⟩ := BQ _ (Below.refl _ _)
    clear BQ hu b7 CR VB BW hrr
    generalize q.funcs.length = G at *
    generalize q.datas.length = E9 at *
    generalize q.notes.length = O9 at *
    generalize w7.alloc (.cells #[.slice ga G gc, .slice ea E9 ec, .slice oa O9 oc] 26) = w8 at VB7 B7 y0 y1 y2 oq ⊢
    generalize w7.heap.size = X7 at y0 y1 y2 ⊢
    by_cases he : er = 0
    · subst he
      obtain ⟨e1, ok⟩ := hb9 rfl
      have OK : Hid (objOk q ∧ l = objW q) := ⟨ok, e1⟩
      have CW : Hid (Calls Try.prog 11 #[.agg #[.slice ga G gc, .slice ea E9 ec, .slice oa O9 oc]] w8 (WritePost w8 q)) := cwrite oq (ok_few ok)
      clear e1 ok hr hb9 oq
      go_upto_region 12 with (go_at_call 11; refine CW.out.mono ?_; rintro e w9 ⟨h1 | ⟨h1, -⟩, b9⟩; obtain ⟨-, v9, rfl, o9⟩ := h1; rotate_left; exact absurd OK.out.1 h1)
      have SM : Hid (Calls Try.prog 13 #[v9, .slice a l.length c] w9 fun e w' => Says e (objW q = l) ∧ Below w9.heap.size w9 w') := rbytes_any (own_is o9 (objW_byt' OK.out.1)) (VB7.out.keep (Stay.of_below b9))
      go_wp2_with (go_at_call 13; refine SM.out.mono ?_; rintro e w10 ⟨hs, b10⟩; obtain rfl := hs.yes OK.out.2.symm)
      go_ret
      exact ⟨rfl, bnext B7.out (bnext b9 b10)⟩
    · have ne : (er != 0) = true := by simpa using he
      have hq : q = noObj := hr.2 he
      have HQ : Hid (q = noObj) := hq
      have CS : Hid (Calls Try.prog 18 #[.agg #[.slice ga G gc, .slice ea E9 ec, .slice oa O9 oc], .agg #[.slice none 0 0, .slice none 0 0, .slice none 0 0]] w8 fun e w' => Says e (q = noObj) ∧ Below w8.heap.size w8 w') := csame oq (nil_obj (fun _ => True) w8)
      clear he hq hr hb9 oq
      go_wp2_with (go_at_call 18; refine CS.out.mono ?_; rintro e w9 ⟨hs, b9⟩; obtain rfl := hs.yes HQ.out)
      go_ret
      exact ⟨rfl, bnext B7.out b9⟩
end Go.Proofs.Ytcbhnpjaaaefiaa
