/- The statement on what is kept, walked. -/
import Derived.Test.YtnejpldbokodaaaGreatDoorChkAwakeAll
import Derived.Test.YtnejpldbokodaaaGreatDoorObjMay
import Derived.Test.YtnejpldbokodaaaGreatDoorObjWrite
namespace Go.Proofs.YtnejpldbokodaaaGreatDoor
open Go.ChangeShapes Go.WideShapes Go.ChangeAt Go.RowKit
set_option linter.unusedVariables false
set_option linter.unusedSimpArgs false
theorem objW_byt10 {p : ObjM} (h : objOk p) : Byt (objW p) := objW_byt p fun d hd => (h.2.1.2 d hd).2.2.2.2.1.2
theorem own_is10 {base : Nat} {w : World} {v : Value} {l : Bs} (h : OwnB base w v l) (hb : Byt l) : IsBytes (Fresh base w) w v l := own_bytesL h hb
/-- A boxed object, and the object itself, in a later world. -/
theorem box_obj {A : Nat → Prop} {w : World} {fa da na : Option Addr} {F D N fc dc nc : Nat} {p : ObjM} (h : IsObj A w (.agg #[.slice fa F fc, .slice da D dc, .slice na N nc]) p) (t : TypeId) : ∀ W, Below (w.alloc (.cells #[.slice fa F fc, .slice da D dc, .slice na N nc] t)).heap.size (w.alloc (.cells #[.slice fa F fc, .slice da D dc, .slice na N nc] t)) W →
    W.cell? ⟨w.heap.size, 0, none⟩ = some (.slice fa F fc) ∧ W.cell? ⟨w.heap.size, 1, none⟩ = some (.slice da D dc) ∧ W.cell? ⟨w.heap.size, 2, none⟩ = some (.slice na N nc) ∧ IsObj A W (.agg #[.slice fa F fc, .slice da D dc, .slice na N nc]) p := fun W hW =>
  ⟨cell_later' (new_cell' w _ t 0 _ rfl) hW, cell_later' (new_cell' w _ t 1 _ rfl) hW, cell_later' (new_cell' w _ t 2 _ rfl) hW, (h.keep (Stay.of_below (keep_alloc8 (Below.refl _ _) _))).keep (Stay.of_below hW)⟩
set_option maxRecDepth 100000 in
set_option maxHeartbeats 8000000 in
theorem keeps10_walk (w : World) (v : Value) (p : ObjM) (h : IsObj (fun _ => True) w v p) (hT : Tab w) : Calls Tryz.prog 6 #[v] w fun e w' => e = .returned (.bool true) ∧ Below w.heap.size w w' := by
  obtain ⟨fa, fc, da, dc, na, nc, rfl⟩ := h.open
  generalize p.funcs.length = F at h
  generalize p.datas.length = D at h
  generalize p.notes.length = N at h
  have FW : Hid (∀ W v, IsObj (fun _ => True) W v p → Calls Tryz.prog 10 #[v] W fun e w' => Says e (fewO p) ∧ Below W.heap.size W w') := fun W v h => few_any h
  have MA : Hid (∀ W v, IsObj (fun _ => True) W v p → Calls Tryz.prog 15 #[v] W fun e w' => Says e (objOk p) ∧ Below W.heap.size W w') := fun W v h => may_any h
  have BC : Hid (∀ W, Below (w.alloc (.cells #[.slice fa F fc, .slice da D dc, .slice na N nc] 34)).heap.size (w.alloc (.cells #[.slice fa F fc, .slice da D dc, .slice na N nc] 34)) W →
    W.cell? ⟨w.heap.size, 0, none⟩ = some (.slice fa F fc) ∧ W.cell? ⟨w.heap.size, 1, none⟩ = some (.slice da D dc) ∧ W.cell? ⟨w.heap.size, 2, none⟩ = some (.slice na N nc) ∧ IsObj (fun _ => True) W (.agg #[.slice fa F fc, .slice da D dc, .slice na N nc]) p) := box_obj h _
  have UP : Hid (Below w.heap.size w (w.alloc (.cells #[.slice fa F fc, .slice da D dc, .slice na N nc] 34))) := keep_alloc8 (Below.refl _ _) _
  have HT : Hid (Tab (w.alloc (.cells #[.slice fa F fc, .slice da D dc, .slice na N nc] 34))) := hT.later UP.out
  clear h hT
  go_enter Tryz.func6, Tryz.ntmps6
  go_upto_region 1 with fail
  generalize w.alloc (.cells #[.slice fa F fc, .slice da D dc, .slice na N nc] 34) = w0 at BC UP HT ⊢
  have AW : Hid (∀ W, Below w0.heap.size w0 W → Calls Tryz.prog 7 #[] W fun e w' => e = .returned (.bool true) ∧ Below W.heap.size W w') := fun W hW => awake10 W (HT.out.later hW)
  by_cases hf : fewO p
  rotate_left
  · have HF : Hid (¬ fewO p) := hf
    clear hf
    go_upto_region 2 with (first
      | (go_at_call 7; refine (AW.out _ (Below.refl _ _)).mono ?_; rintro e w1 ⟨rfl, b1⟩; obtain ⟨x0, x1, x2, ob⟩ := BC.out w1 b1)
      | (go_at_call 10; refine (FW.out _ _ ob).mono ?_; rintro e w2 ⟨hs, b2⟩; obtain rfl := hs.no HF.out; clear hs))
    go_wp2_with (go_at_call 7; refine (AW.out _ (bnext b1 b2)).mono ?_; rintro e w3 ⟨rfl, b3⟩)
    go_ret
    exact ⟨rfl, bnext UP.out (bnext (bnext b1 b2) b3)⟩
  have HF : Hid (fewO p) := hf
  clear hf
  by_cases hok : objOk p
  rotate_left
  · have OK : Hid (¬ objOk p) := hok
    clear hok
    go_upto_region 2 with (first
      | (go_at_call 7; refine (AW.out _ (Below.refl _ _)).mono ?_; rintro e w1 ⟨rfl, b1⟩; obtain ⟨x0, x1, x2, ob⟩ := BC.out w1 b1)
      | (go_at_call 10; refine (FW.out _ _ ob).mono ?_; rintro e w2 ⟨hs, b2⟩; obtain rfl := hs.yes HF.out; clear hs x0 x1 x2 ob; obtain ⟨x0, x1, x2, ob⟩ := BC.out w2 (bnext b1 b2))
      | (go_at_call 15; refine (MA.out _ _ ob).mono ?_; rintro e w3 ⟨hs, b3⟩; obtain rfl := hs.no OK.out; clear hs))
    go_wp2_with (go_at_call 7; refine (AW.out _ (bnext (bnext b1 b2) b3)).mono ?_; rintro e w4 ⟨rfl, b4⟩)
    go_ret
    exact ⟨rfl, bnext UP.out (bnext (bnext (bnext b1 b2) b3) b4)⟩
  have OK : Hid (objOk p) := hok
  clear hok
  go_upto_region 3 with (first
    | (go_at_call 7; refine (AW.out _ (Below.refl _ _)).mono ?_; rintro e w1 ⟨rfl, b1⟩; obtain ⟨x0, x1, x2, ob⟩ := BC.out w1 b1)
    | (go_at_call 10; refine (FW.out _ _ ob).mono ?_; rintro e w2 ⟨hs, b2⟩; obtain rfl := hs.yes HF.out; clear hs x0 x1 x2 ob; obtain ⟨x0, x1, x2, ob⟩ := BC.out w2 (bnext b1 b2))
    | (go_at_call 15; refine (MA.out _ _ ob).mono ?_; rintro e w3 ⟨hs, b3⟩; obtain rfl := hs.yes OK.out; clear hs))
  have B3 : Hid (Below w0.heap.size w0 w3) := bnext (bnext b1 b2) b3
  clear b1 b2 b3 x0 x1 x2 ob
  obtain ⟨x0, x1, x2, ob⟩ := BC.out w3 B3.out
  have RW : Hid (∀ W, Below w0.heap.size w0 W → Calls Tryz.prog 16 #[.agg #[.slice fa F fc, .slice da D dc, .slice na N nc]] W fun e w' => ∃ v', e = .returned v' ∧ OwnB W.heap.size w' v' (objW p) ∧ Below W.heap.size W w') := fun W hW => rwrite9 (BC.out W hW).2.2.2 OK.out
  go_upto_region 4 with (go_at_call 16; refine (RW.out _ B3.out).mono ?_; rintro e w4 ⟨v4, rfl, o4, b4⟩)
  have B4 : Hid (Below w0.heap.size w0 w4) := bnext B3.out b4
  have V4 : Hid (IsBytes (Fresh w3.heap.size w4) w4 v4 (objW p)) := own_is10 o4 (objW_byt10 OK.out)
  clear b4 x0 x1 x2 ob o4
  obtain ⟨x0, x1, x2, ob⟩ := BC.out w4 B4.out
  have CO : Hid (Calls Tryz.prog 11 #[.agg #[.slice fa F fc, .slice da D dc, .slice na N nc]] w4 fun e w' => e = .returned (.int .i64 (objE p)) ∧ Below w4.heap.size w4 w') := obj_any ob (HT.out.later B4.out)
  go_upto_region 5 with (go_at_call 11; refine CO.out.mono ?_; rintro e w5 ⟨rfl, b5⟩)
  have B5 : Hid (Below w0.heap.size w0 w5) := bnext B4.out b5
  have V5 : Hid (IsBytes (Fresh w3.heap.size w4) w5 v4 (objW p)) := V4.out.keep (Stay.of_below b5)
  clear b5 x0 x1 x2 ob CO
  obtain ⟨n, en⟩ : ∃ n, (objW p).length = n := ⟨_, rfl⟩
  obtain ⟨tx, et⟩ : ∃ tx, textF n (gF (objW p)) = tx := ⟨_, rfl⟩
  have EN : Hid ((objW p).length = n ∧ textF n (gF (objW p)) = tx) := ⟨en, et⟩
  have CVv : Hid (∀ W v' A, IsBytes A W v' (objW p) → ∃ a c, v' = .slice a n c ∧ (convert 45 9 (.slice a n c)).run Tryz.prog W = .ok (.string tx) W) := fun W v' A h => by
    obtain ⟨a, c, e, -, hb, -⟩ := h.row
    have h9 := text_conv W a _ c _ hb
    rw [EN.out.1] at e h9
    rw [EN.out.2] at h9
    exact ⟨a, c, e, h9⟩
  clear en et
  obtain ⟨a4, c4, rfl, -⟩ := CVv.out w5 v4 _ V5.out
  have BC5 : Hid (∀ W, Below w5.heap.size w5 W → Below w5.heap.size w5 W ∧ W.cell? ⟨w.heap.size, 0, none⟩ = some (.slice fa F fc) ∧ W.cell? ⟨w.heap.size, 1, none⟩ = some (.slice da D dc) ∧ W.cell? ⟨w.heap.size, 2, none⟩ = some (.slice na N nc) ∧ (convert 45 9 (.slice a4 n c4)).run Tryz.prog W = .ok (.string tx) W) := fun W hW => by
    obtain ⟨x0, x1, x2, -⟩ := BC.out W (bnext B5.out hW)
    obtain ⟨a, c, e, h9⟩ := CVv.out W _ _ (V5.out.keep (Stay.of_below hW))
    simp only [Value.slice.injEq] at e
    obtain ⟨rfl, -, rfl⟩ := e
    exact ⟨hW, x0, x1, x2, h9⟩
  obtain ⟨-, x0, x1, x2, cv⟩ := BC5.out w5 (Below.refl _ _)
  obtain ⟨-, y0, y1, y2, cv'⟩ := BC5.out w5.drew (Below.refl _ _).drew
  go_region_with ((go_at_call 16; refine (RW.out _ (bnext B5.out (by first | exact (Below.refl _ _).drew | exact Below.refl _ _))).mono ?_; rintro e w6 ⟨v6, rfl, o6, b6⟩; have k6 : Below w5.heap.size w5 w6 := (by first | exact b6 | exact bnext (Below.refl _ _) b6 | exact (Below.refl _ _).drew.trans b6); obtain ⟨-, -, -, -, cv4⟩ := BC5.out w6 k6; obtain ⟨a6, c6, rfl, cv6⟩ := CVv.out _ _ _ (own_is10 o6 (objW_byt10 OK.out)); clear o6))
  all_goals
    go_wp2
    go_ret
    exact ⟨rfl, bnext UP.out (bnext B5.out k6)⟩
end Go.Proofs.YtnejpldbokodaaaGreatDoor
