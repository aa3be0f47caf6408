/- The walk over what is alike. -/
import Derived.Test.YtcbhnpjaaaefiaaObjWritesW
import Derived.Deep.RegionHeld3
namespace Go.Proofs.Ytcbhnpjaaaefiaa
open Go.ChangeShapes Go.WideShapes Go.ChangeAt Go.RowKit
set_option linter.unusedVariables false
set_option linter.unusedSimpArgs false
set_option maxRecDepth 100000 in
set_option maxHeartbeats 4000000 in
theorem sames_walk (w : World) (v : Value) (p : ObjM) (h : IsObj (fun _ => True) w v p) (v' : Value) (q : ObjM) (h' : IsObj (fun _ => True) w v' q) : Calls Try.prog 6 #[v, v'] w fun e w' => e = .returned (.bool true) ∧ Below w.heap.size w w' := by
  have AW : Hid (∀ W, Calls Try.prog 9 #[] W fun e w' => e = .returned (.bool true) ∧ Below W.heap.size W w') := awake9
  obtain ⟨fa, fc, da, dc, na, nc, rfl⟩ := h.open
  obtain ⟨ga, gc, ea, ec, oa, oc, rfl⟩ := h'.open
  generalize p.funcs.length = F at h
  generalize p.datas.length = D at h
  generalize p.notes.length = N at h
  generalize q.funcs.length = G at h'
  generalize q.datas.length = E at h'
  generalize q.notes.length = O at h'
  have FW : Hid (∀ W v p, IsObj (fun _ => True) W v p → Calls Try.prog 10 #[v] W fun e w' => Says e (fewO p) ∧ Below W.heap.size W w') := fun W v p h => few_any h
  have up1 := keep_alloc8 (Below.refl _ w) (.cells #[.slice fa F fc, .slice da D dc, .slice na N nc] 26)
  have BC : Hid (∀ W, Below ((w.alloc (.cells #[.slice fa F fc, .slice da D dc, .slice na N nc] 26)).alloc (.cells #[.slice ga G gc, .slice ea E ec, .slice oa O oc] 26)).heap.size ((w.alloc (.cells #[.slice fa F fc, .slice da D dc, .slice na N nc] 26)).alloc (.cells #[.slice ga G gc, .slice ea E ec, .slice oa O oc] 26)) W →
    (W.cell? ⟨w.heap.size, 0, none⟩ = some (.slice fa F fc) ∧ W.cell? ⟨w.heap.size, 1, none⟩ = some (.slice da D dc) ∧ W.cell? ⟨w.heap.size, 2, none⟩ = some (.slice na N nc) ∧ IsObj (fun _ => True) W (.agg #[.slice fa F fc, .slice da D dc, .slice na N nc]) p) ∧
    (W.cell? ⟨w.heap.size + 1, 0, none⟩ = some (.slice ga G gc) ∧ W.cell? ⟨w.heap.size + 1, 1, none⟩ = some (.slice ea E ec) ∧ W.cell? ⟨w.heap.size + 1, 2, none⟩ = some (.slice oa O oc) ∧ IsObj (fun _ => True) W (.agg #[.slice ga G gc, .slice ea E ec, .slice oa O oc]) q)) := fun W hW => by
    refine ⟨box_cells h _ W (bnext (keep_alloc8 (Below.refl _ _) _) hW), ?_⟩
    have h2 := box_cells (h'.keep (Stay.of_below up1)) 26 W hW
    rwa [show (w.alloc (.cells #[.slice fa F fc, .slice da D dc, .slice na N nc] 26)).heap.size = w.heap.size + 1 from by simp] at h2
  have UP : Hid (Below w.heap.size w ((w.alloc (.cells #[.slice fa F fc, .slice da D dc, .slice na N nc] 26)).alloc (.cells #[.slice ga G gc, .slice ea E ec, .slice oa O oc] 26))) := keep_alloc8 up1 _
  clear h h' up1
  go_enter Try.func6, Try.ntmps6
  go_upto_region 1 with fail
  generalize (w.alloc (.cells #[.slice fa F fc, .slice da D dc, .slice na N nc] 26)).alloc (.cells #[.slice ga G gc, .slice ea E ec, .slice oa O oc] 26) = w0 at BC UP ⊢
  generalize w.heap.size + 1 = Y at BC ⊢
  by_cases hf : fewO p
  rotate_left
  · have HF : Hid (¬ fewO p) := hf
    clear hf
    go_upto_region 2 with (first
      | (go_at_call 9; refine (AW.out _).mono ?_; rintro e w1 ⟨rfl, b1⟩; obtain ⟨⟨x0, x1, x2, ob⟩, y0, y1, y2, oq⟩ := BC.out w1 b1)
      | (go_at_call 10; refine (FW.out _ _ _ ob).mono ?_; rintro e w2 ⟨hs, b2⟩; obtain rfl := hs.no HF.out; clear hs))
    go_wp2_with (go_at_call 9; refine (AW.out _).mono ?_; rintro e w3 ⟨rfl, b3⟩)
    go_ret
    exact ⟨rfl, bnext UP.out (bnext (bnext b1 b2) b3)⟩
  have HF : Hid (fewO p) := hf
  clear hf
  by_cases hg : fewO q
  rotate_left
  · have HG : Hid (¬ fewO q) := hg
    clear hg
    go_upto_region 2 with (first
      | (go_at_call 9; refine (AW.out _).mono ?_; rintro e w1 ⟨rfl, b1⟩; obtain ⟨⟨x0, x1, x2, ob⟩, y0, y1, y2, oq⟩ := BC.out w1 b1)
      | (have z := b2; go_at_call 10; refine (FW.out _ _ _ oq).mono ?_; rintro e w3 ⟨hs, b3⟩; obtain rfl := hs.no HG.out; clear hs)
      | (go_at_call 10; refine (FW.out _ _ _ ob).mono ?_; rintro e w2 ⟨hs, b2⟩; obtain rfl := hs.yes HF.out; clear hs x0 x1 x2 y0 y1 y2 ob oq; obtain ⟨⟨x0, x1, x2, ob⟩, y0, y1, y2, oq⟩ := BC.out w2 (bnext b1 b2)))
    go_wp2_with (go_at_call 9; refine (AW.out _).mono ?_; rintro e w4 ⟨rfl, b4⟩)
    go_ret
    exact ⟨rfl, bnext UP.out (bnext (bnext (bnext b1 b2) b3) b4)⟩
  have HG : Hid (fewO q) := hg
  clear hg
  go_upto_region 3 with (first
    | (go_at_call 9; refine (AW.out _).mono ?_; rintro e w1 ⟨rfl, b1⟩; obtain ⟨⟨x0, x1, x2, ob⟩, y0, y1, y2, oq⟩ := BC.out w1 b1)
    | (have z := b2; go_at_call 10; refine (FW.out _ _ _ oq).mono ?_; rintro e w3 ⟨hs, b3⟩; obtain rfl := hs.yes HG.out; clear hs)
    | (go_at_call 10; refine (FW.out _ _ _ ob).mono ?_; rintro e w2 ⟨hs, b2⟩; obtain rfl := hs.yes HF.out; clear hs x0 x1 x2 y0 y1 y2 ob oq; obtain ⟨⟨x0, x1, x2, ob⟩, y0, y1, y2, oq⟩ := BC.out w2 (bnext b1 b2)))
  have B3 : Hid (Below w0.heap.size w0 w3) := bnext (bnext b1 b2) b3
  clear b1 b2 b3 x0 x1 x2 y0 y1 y2 ob oq z
  obtain ⟨⟨x0, x1, x2, ob⟩, y0, y1, y2, oq⟩ := BC.out w3 B3.out
  have CS : Hid (∀ W, Below w3.heap.size w3 W → Calls Try.prog 18 #[.agg #[.slice fa F fc, .slice da D dc, .slice na N nc], .agg #[.slice ga G gc, .slice ea E ec, .slice oa O oc]] W fun e w' => Says e (p = q) ∧ Below W.heap.size W w') := fun W hW => csame (ob.keep (Stay.of_below hW)) (oq.keep (Stay.of_below hW))
  have CA : Hid (∀ W, Below w3.heap.size w3 W → Calls Try.prog 18 #[.agg #[.slice fa F fc, .slice da D dc, .slice na N nc], .agg #[.slice fa F fc, .slice da D dc, .slice na N nc]] W fun e w' => Says e (p = p) ∧ Below W.heap.size W w') := fun W hW => csame (ob.keep (Stay.of_below hW)) (ob.keep (Stay.of_below hW))
  have RS : Hid (∀ W, Below w3.heap.size w3 W → Calls Try.prog 17 #[.agg #[.slice fa F fc, .slice da D dc, .slice na N nc], .agg #[.slice ga G gc, .slice ea E ec, .slice oa O oc]] W fun e w' => Says e (p = q) ∧ Below W.heap.size W w') := fun W hW => rsame9_any (ob.keep (Stay.of_below hW)) (oq.keep (Stay.of_below hW))
  have BC3 : Hid (∀ W, Below w3.heap.size w3 W → Below w3.heap.size w3 W ∧ W.cell? ⟨w.heap.size, 0, none⟩ = some (.slice fa F fc) ∧ W.cell? ⟨w.heap.size, 1, none⟩ = some (.slice da D dc) ∧ W.cell? ⟨w.heap.size, 2, none⟩ = some (.slice na N nc) ∧ W.cell? ⟨Y, 0, none⟩ = some (.slice ga G gc) ∧ W.cell? ⟨Y, 1, none⟩ = some (.slice ea E ec) ∧ W.cell? ⟨Y, 2, none⟩ = some (.slice oa O oc)) := fun W hW => ⟨hW, cell_later' x0 hW, cell_later' x1 hW, cell_later' x2 hW, cell_later' y0 hW, cell_later' y1 hW, cell_later' y2 hW⟩
  clear x0 x1 x2 y0 y1 y2 ob oq
  by_cases e : p = q
  · have HE : Hid (p = q) := e
    clear e
    go_region_held3 (fun W => Below w3.heap.size w3 W ∧ W.cell? ⟨w.heap.size, 0, none⟩ = some (.slice fa F fc) ∧ W.cell? ⟨w.heap.size, 1, none⟩ = some (.slice da D dc) ∧ W.cell? ⟨w.heap.size, 2, none⟩ = some (.slice na N nc) ∧ W.cell? ⟨Y, 0, none⟩ = some (.slice ga G gc) ∧ W.cell? ⟨Y, 1, none⟩ = some (.slice ea E ec) ∧ W.cell? ⟨Y, 2, none⟩ = some (.slice oa O oc))
      (first
      | exact BC3.out _ k6
      | exact BC3.out _ k5
      | exact BC3.out _ k4
      | exact BC3.out _ (Below.refl _ _)
      | exact BC3.out _ (Below.refl _ _).drew)
      (first
      | (go_at_call 17; refine (RS.out _ k4).mono ?_; rintro e w5 ⟨hs, b5⟩; obtain rfl := hs.yes HE.out; have k5 := bnext k4 b5; clear hs)
      | (have z := k5; go_at_call 18; refine (CA.out _ k5).mono ?_; rintro e w6 ⟨hs, b6⟩; obtain rfl := hs.yes (by first | rfl | trivial); have k6 := bnext k5 b6; clear hs)
      | (go_at_call 18; refine (CS.out _ (by first | exact (Below.refl _ _).drew | exact Below.refl _ _)).mono ?_; rintro e w4 ⟨hs, b4⟩; obtain rfl := hs.yes HE.out; have k4 : Below w3.heap.size w3 w4 := (by first | exact b4 | exact (Below.refl _ _).drew.trans b4); clear hs))
    all_goals
      go_wp2
      go_ret
      exact ⟨rfl, bnext UP.out (bnext B3.out k6)⟩
  · have HE : Hid (¬ p = q) := e
    clear e
    go_region_held3 (fun W => Below w3.heap.size w3 W ∧ W.cell? ⟨w.heap.size, 0, none⟩ = some (.slice fa F fc) ∧ W.cell? ⟨w.heap.size, 1, none⟩ = some (.slice da D dc) ∧ W.cell? ⟨w.heap.size, 2, none⟩ = some (.slice na N nc) ∧ W.cell? ⟨Y, 0, none⟩ = some (.slice ga G gc) ∧ W.cell? ⟨Y, 1, none⟩ = some (.slice ea E ec) ∧ W.cell? ⟨Y, 2, none⟩ = some (.slice oa O oc))
      (first
      | exact BC3.out _ k6
      | exact BC3.out _ k5
      | exact BC3.out _ k4
      | exact BC3.out _ (Below.refl _ _)
      | exact BC3.out _ (Below.refl _ _).drew)
      (first
      | (go_at_call 17; refine (RS.out _ k4).mono ?_; rintro e w5 ⟨hs, b5⟩; obtain rfl := hs.no HE.out; have k5 := bnext k4 b5; clear hs)
      | (have z := k5; go_at_call 18; refine (CA.out _ k5).mono ?_; rintro e w6 ⟨hs, b6⟩; obtain rfl := hs.yes (by first | rfl | trivial); have k6 := bnext k5 b6; clear hs)
      | (go_at_call 18; refine (CS.out _ (by first | exact (Below.refl _ _).drew | exact Below.refl _ _)).mono ?_; rintro e w4 ⟨hs, b4⟩; obtain rfl := hs.no HE.out; have k4 : Below w3.heap.size w3 w4 := (by first | exact b4 | exact (Below.refl _ _).drew.trans b4); clear hs))
    all_goals
      go_wp2
      go_ret
      exact ⟨rfl, bnext UP.out (bnext B3.out k6)⟩
end Go.Proofs.Ytcbhnpjaaaefiaa
