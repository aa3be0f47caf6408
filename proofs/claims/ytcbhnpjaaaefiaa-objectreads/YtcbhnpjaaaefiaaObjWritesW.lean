/- The walk over what is written. -/
import Derived.Test.YtcbhnpjaaaefiaaObjAwake
import Derived.Test.YtcbhnpjaaaefiaaObjMay
import Derived.Test.YtcbhnpjaaaefiaaObjWrite
import Derived.Test.YtcbhnpjaaaefiaaObjSame2
namespace Go.Proofs.Ytcbhnpjaaaefiaa
open Go.ChangeShapes Go.WideShapes Go.ChangeAt Go.RowKit
set_option linter.unusedVariables false
set_option linter.unusedSimpArgs false
theorem objW_byt' {p : ObjM} (h : objOk p) : Byt (objW p) := objW_byt p fun d hd => (h.2.1.2 d hd).2.2.2.2.1.2
/-- A boxed object, and the object itself, in a later world. -/
theorem box_cells {A : Nat → Prop} {w : World} {fa da na : Option Addr} {F D N fc dc nc : Nat} {p : ObjM} (h : IsObj A w (.agg #[.slice fa F fc, .slice da D dc, .slice na N nc]) p) (t : TypeId) : ∀ W, Below (w.alloc (.cells #[.slice fa F fc, .slice da D dc, .slice na N nc] t)).heap.size (w.alloc (.cells #[.slice fa F fc, .slice da D dc, .slice na N nc] t)) W →
    W.cell? ⟨w.heap.size, 0, none⟩ = some (.slice fa F fc) ∧ W.cell? ⟨w.heap.size, 1, none⟩ = some (.slice da D dc) ∧ W.cell? ⟨w.heap.size, 2, none⟩ = some (.slice na N nc) ∧ IsObj A W (.agg #[.slice fa F fc, .slice da D dc, .slice na N nc]) p := fun W hW =>
  ⟨cell_later' (new_cell' w _ t 0 _ rfl) hW, cell_later' (new_cell' w _ t 1 _ rfl) hW, cell_later' (new_cell' w _ t 2 _ rfl) hW, (h.keep (Stay.of_below (keep_alloc8 (Below.refl _ _) _))).keep (Stay.of_below hW)⟩
set_option maxRecDepth 100000 in
set_option maxHeartbeats 4000000 in
theorem writes_walk (w : World) (v : Value) (p : ObjM) (h : IsObj (fun _ => True) w v p) : Calls Try.prog 3 #[v] w fun e w' => e = .returned (.bool true) ∧ Below w.heap.size w w' := by
  have AW : Hid (∀ W, Calls Try.prog 9 #[] W fun e w' => e = .returned (.bool true) ∧ Below W.heap.size W w') := awake9
  obtain ⟨fa, fc, da, dc, na, nc, rfl⟩ := h.open
  generalize p.funcs.length = F at h
  generalize p.datas.length = D at h
  generalize p.notes.length = N at h
  have FW : Hid (∀ W v, IsObj (fun _ => True) W v p → Calls Try.prog 10 #[v] W fun e w' => Says e (fewO p) ∧ Below W.heap.size W w') := fun W v h => few_any h
  have MA : Hid (∀ W v, IsObj (fun _ => True) W v p → Calls Try.prog 12 #[v] W fun e w' => Says e (objOk p) ∧ Below W.heap.size W w') := fun W v h => may_any h
  have BC : Hid (∀ W, Below (w.alloc (.cells #[.slice fa F fc, .slice da D dc, .slice na N nc] 26)).heap.size (w.alloc (.cells #[.slice fa F fc, .slice da D dc, .slice na N nc] 26)) W →
    W.cell? ⟨w.heap.size, 0, none⟩ = some (.slice fa F fc) ∧ W.cell? ⟨w.heap.size, 1, none⟩ = some (.slice da D dc) ∧ W.cell? ⟨w.heap.size, 2, none⟩ = some (.slice na N nc) ∧ IsObj (fun _ => True) W (.agg #[.slice fa F fc, .slice da D dc, .slice na N nc]) p) := box_cells h _
  have UP : Hid (Below w.heap.size w (w.alloc (.cells #[.slice fa F fc, .slice da D dc, .slice na N nc] 26))) := keep_alloc8 (Below.refl _ _) _
  clear h
  go_enter Try.func3, Try.ntmps3
  go_upto_region 1 with fail
  generalize w.alloc (.cells #[.slice fa F fc, .slice da D dc, .slice na N nc] 26) = w0 at BC UP ⊢
  by_cases hf : fewO p
  · have HF : Hid (fewO p) := hf
    clear hf
    go_upto_region 3 with (first
      | (go_at_call 9; refine (AW.out _).mono ?_; rintro e w1 ⟨rfl, b1⟩; obtain ⟨x0, x1, x2, ob⟩ := BC.out w1 b1)
      | (go_at_call 10; refine (FW.out _ _ ob).mono ?_; rintro e w2 ⟨hs, b2⟩; obtain rfl := hs.yes HF.out; clear hs))
    have B2 : Hid (Below w0.heap.size w0 w2) := bnext b1 b2
    clear b1 b2 x0 x1 x2 ob
    obtain ⟨x0, x1, x2, ob⟩ := BC.out w2 B2.out
    have CW : Hid (Calls Try.prog 11 #[.agg #[.slice fa F fc, .slice da D dc, .slice na N nc]] w2 (WritePost w2 p)) := cwrite ob HF.out
    by_cases hok : objOk p
    · have OK : Hid (objOk p) := hok
      clear hok
      go_upto_region 4 with (go_at_call 11; refine CW.out.mono ?_; rintro e w3 ⟨h1 | ⟨h1, -⟩, b3⟩; obtain ⟨-, v3, rfl, o3⟩ := h1; rotate_left; exact absurd OK.out h1)
      have B3 : Hid (Below w0.heap.size w0 w3) := bnext B2.out b3
      have V3 : Hid (IsBytes (Fresh w2.heap.size w3) w3 v3 (objW p)) := own_is o3 (objW_byt' OK.out)
      clear b3 x0 x1 x2 ob o3 CW
      obtain ⟨x0, x1, x2, ob⟩ := BC.out w3 B3.out
      go_upto_region 6 with (go_at_call 12; refine (MA.out _ _ ob).mono ?_; rintro e w4 ⟨hs, b4⟩; obtain rfl := hs.yes OK.out; clear hs)
      have B4 : Hid (Below w0.heap.size w0 w4) := bnext B3.out b4
      have V4 : Hid (IsBytes (Fresh w2.heap.size w3) w4 v3 (objW p)) := V3.out.keep (Stay.of_below b4)
      clear b4 x0 x1 x2 ob V3
      obtain ⟨x0, x1, x2, ob⟩ := BC.out w4 B4.out
      have RW : Hid (Calls Try.prog 14 #[.agg #[.slice fa F fc, .slice da D dc, .slice na N nc]] w4 fun e w' => ∃ v', e = .returned v' ∧ OwnB w4.heap.size w' v' (objW p) ∧ Below w4.heap.size w4 w') := rwrite9 ob OK.out
      have SM : Hid (∀ W v', Below w4.heap.size w4 W → OwnB w4.heap.size W v' (objW p) → Calls Try.prog 13 #[v3, v'] W fun e w' => Says e (objW p = objW p) ∧ Below W.heap.size W w') := fun W v' hW o => rbytes_any (V4.out.keep (Stay.of_below hW)) (own_is o (objW_byt' OK.out))
      go_wp2_with (first
        | (go_at_call 14; refine RW.out.mono ?_; rintro e w5 ⟨v5, rfl, o5, b5⟩)
        | (go_at_call 13; refine (SM.out _ _ b5 o5).mono ?_; rintro e w6 ⟨hs, b6⟩; obtain rfl := hs.yes (by first | rfl | trivial); clear hs))
      go_ret
      exact ⟨rfl, bnext UP.out (bnext (bnext B4.out b5) b6)⟩
    · have OK : Hid (¬ objOk p) := hok
      clear hok
      go_upto_region 4 with (go_at_call 11; refine CW.out.mono ?_; rintro e w3 ⟨⟨h1, -⟩ | h1, b3⟩; exact absurd h1 OK.out; obtain ⟨-, a3, c3, rfl⟩ := h1)
      have B3 : Hid (Below w0.heap.size w0 w3) := bnext B2.out b3
      clear b3 x0 x1 x2 ob CW
      obtain ⟨x0, x1, x2, ob⟩ := BC.out w3 B3.out
      go_wp2_with (go_at_call 12; refine (MA.out _ _ ob).mono ?_; rintro e w4 ⟨hs, b4⟩; obtain rfl := hs.no OK.out; clear hs)
      go_ret
      exact ⟨rfl, bnext UP.out (bnext B3.out b4)⟩
  · have HF : Hid (¬ fewO p) := hf
    clear hf
    go_upto_region 2 with (first
      | (go_at_call 9; refine (AW.out _).mono ?_; rintro e w1 ⟨rfl, b1⟩; obtain ⟨x0, x1, x2, ob⟩ := BC.out w1 b1)
      | (go_at_call 10; refine (FW.out _ _ ob).mono ?_; rintro e w2 ⟨hs, b2⟩; obtain rfl := hs.no HF.out; clear hs))
    go_wp2_with (go_at_call 9; refine (AW.out _).mono ?_; rintro e w3 ⟨rfl, b3⟩)
    go_ret
    exact ⟨rfl, bnext UP.out (bnext (bnext b1 b2) b3)⟩
end Go.Proofs.Ytcbhnpjaaaefiaa
