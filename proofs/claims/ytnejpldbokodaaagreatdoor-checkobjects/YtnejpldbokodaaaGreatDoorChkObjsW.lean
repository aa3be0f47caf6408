/- The statement on objects, walked. -/
import Derived.Test.YtnejpldbokodaaaGreatDoorChkAwakeAll
import Derived.Test.YtnejpldbokodaaaGreatDoorChkRefO
namespace Go.Proofs.YtnejpldbokodaaaGreatDoor
open Go.ChangeShapes Go.WideShapes Go.ChangeAt Go.RowKit
set_option linter.unusedVariables false
set_option linter.unusedSimpArgs false
set_option maxRecDepth 100000 in
set_option maxHeartbeats 4000000 in
theorem objs_walk (w : World) (v : Value) (p : ObjM) (h : IsObj (fun _ => True) w v p) (hT : Tab w) : Calls Tryz.prog 4 #[v] w fun e w' => e = .returned (.bool true) ∧ Below w.heap.size w w' := by
  obtain ⟨fa, fc, da, dc, na, nc, rfl⟩ := h.open
  obtain ⟨E, eE⟩ : ∃ E, objE p = E := ⟨_, rfl⟩
  generalize p.funcs.length = F at h
  generalize p.datas.length = D at h
  generalize p.notes.length = N at h
  have HV : Hid (IsObj (fun _ => True) w (.agg #[.slice fa F fc, .slice da D dc, .slice na N nc]) p) := h
  have HT : Hid (Tab w) := hT
  have EE : Hid (objE p = E) := eE
  have UP : Hid (Below w.heap.size w (w.alloc (.cells #[.slice fa F fc, .slice da D dc, .slice na N nc] 34))) := keep_alloc8 (Below.refl _ _) _
  have X1 : Hid (XAt (w.alloc (.cells #[.slice fa F fc, .slice da D dc, .slice na N nc] 34)) w.heap.size [.slice fa F fc, .slice da D dc, .slice na N nc]) := XAt.new _ _ _
  have AW : Hid (∀ X, Below w.heap.size w X → Calls Tryz.prog 7 #[] X fun e w' => e = .returned (.bool true) ∧ Below X.heap.size X w') := fun X hX => awake10 X (HT.out.later hX)
  have FW : Hid (∀ X, Below w.heap.size w X → Calls Tryz.prog 10 #[.agg #[.slice fa F fc, .slice da D dc, .slice na N nc]] X fun e w' => Says e (fewO p) ∧ Below X.heap.size X w') := fun X hX => few_any (HV.out.keep (Stay.of_below hX))
  have CD : Hid (∀ X, Below w.heap.size w X → Calls Tryz.prog 11 #[.agg #[.slice fa F fc, .slice da D dc, .slice na N nc]] X fun e w' => e = .returned (.int .i64 E) ∧ Below X.heap.size X w') := fun X hX => by
    have h := obj_any (HV.out.keep (Stay.of_below hX)) (HT.out.later hX)
    rwa [EE.out] at h
  have CR : Hid (∀ X, Below w.heap.size w X → Calls Tryz.prog 12 #[.agg #[.slice fa F fc, .slice da D dc, .slice na N nc]] X fun e w' => e = .returned (.int .i64 E) ∧ Below X.heap.size X w') := fun X hX => by
    have h := robj_any (HV.out.keep (Stay.of_below hX))
    rwa [EE.out] at h
  clear h hT HV eE EE
  go_enter Tryz.func4, Tryz.ntmps4
  go_upto_region 1 with fail
  generalize w.alloc (.cells #[.slice fa F fc, .slice da D dc, .slice na N nc] 34) = w0 at UP X1 ⊢
  have hX : Hid (w.heap.size < w0.heap.size) := X1.out.lt (by simp)
  have BC : Hid (∀ W, Below w0.heap.size w0 W → W.cell? ⟨w.heap.size, 0, none⟩ = some (.slice fa F fc) ∧ W.cell? ⟨w.heap.size, 1, none⟩ = some (.slice da D dc) ∧ W.cell? ⟨w.heap.size, 2, none⟩ = some (.slice na N nc)) := fun W hW => by
    have x := X1.out.later hX.out hW
    exact ⟨x.1 0 _ rfl, x.1 1 _ rfl, x.1 2 _ rfl⟩
  by_cases hf : fewO p
  rotate_left
  · have HF : Hid (¬ fewO p) := hf
    clear hf
    go_upto_region 2 with (first
      | (go_at_call 7; refine (AW.out _ UP.out).mono ?_; rintro e w1 ⟨rfl, b1⟩; have K1 := Hid.mk0 b1; obtain ⟨x0, x1, x2⟩ := BC.out w1 b1)
      | (go_at_call 10; refine (FW.out _ (bnext UP.out K1.out)).mono ?_; rintro e w2 ⟨hs, b2⟩; have K2 := Hid.mk0 (bnext K1.out b2); obtain rfl := hs.no HF.out; clear hs))
    go_wp2_with (go_at_call 7; refine (AW.out _ (bnext UP.out K2.out)).mono ?_; rintro e w3 ⟨rfl, b3⟩)
    go_ret
    exact ⟨rfl, bnext UP.out (bnext K2.out b3)⟩
  have HF : Hid (fewO p) := hf
  clear hf
  go_upto_region 3 with (first
    | (go_at_call 7; refine (AW.out _ UP.out).mono ?_; rintro e w1 ⟨rfl, b1⟩; have K1 := Hid.mk0 b1; obtain ⟨x0, x1, x2⟩ := BC.out w1 b1)
    | (go_at_call 10; refine (FW.out _ (bnext UP.out K1.out)).mono ?_; rintro e w2 ⟨hs, b2⟩; have K2 := Hid.mk0 (bnext K1.out b2); obtain rfl := hs.yes HF.out; clear hs))
  have BC2 : Hid (∀ W, Below w2.heap.size w2 W → Below w2.heap.size w2 W ∧ W.cell? ⟨w.heap.size, 0, none⟩ = some (.slice fa F fc) ∧ W.cell? ⟨w.heap.size, 1, none⟩ = some (.slice da D dc) ∧ W.cell? ⟨w.heap.size, 2, none⟩ = some (.slice na N nc)) := fun W hW => ⟨hW, BC.out W (bnext K2.out hW)⟩
  clear x0 x1 x2 b1 b2
  go_region_held3 (fun W => Below w2.heap.size w2 W ∧ W.cell? ⟨w.heap.size, 0, none⟩ = some (.slice fa F fc) ∧ W.cell? ⟨w.heap.size, 1, none⟩ = some (.slice da D dc) ∧ W.cell? ⟨w.heap.size, 2, none⟩ = some (.slice na N nc))
    (first
    | exact BC2.out _ k5
    | exact BC2.out _ k4
    | exact BC2.out _ (Below.refl _ _)
    | exact BC2.out _ (Below.refl _ _).drew)
    (first
    | (go_at_call 12; refine (CR.out _ (bnext (bnext UP.out K2.out) k4)).mono ?_; rintro e w5 ⟨rfl, b5⟩; have k5 := bnext k4 b5)
    | (go_at_call 11; refine (CD.out _ (bnext (bnext UP.out K2.out) (by first | exact (Below.refl _ _).drew | exact Below.refl _ _))).mono ?_; rintro e w4 ⟨rfl, b4⟩; have k4 : Below w2.heap.size w2 w4 := (by first | exact b4 | exact bnext (Below.refl _ _).drew b4 | exact (Below.refl _ _).drew.trans b4)))
  all_goals
    go_wp2
    go_ret
    exact ⟨rfl, bnext UP.out (bnext K2.out k5)⟩
end Go.Proofs.YtnejpldbokodaaaGreatDoor
