/- The walk over what is read, beside the document's reader. -/
import Derived.Test.YtcbhnpjaaaefiaaObjWritesW
import Derived.Test.YtcbhnpjaaaefiaaObjRead
namespace Go.Proofs.Ytcbhnpjaaaefiaa
open Go.ChangeShapes Go.WideShapes Go.ChangeAt Go.RowKit
set_option linter.unusedVariables false
set_option linter.unusedSimpArgs false
set_option maxRecDepth 100000 in
set_option maxHeartbeats 2000000 in
theorem reads_walk (w : World) (v : Value) (l : Bs) (h : IsBytes (fun _ => True) w v l) :
    Calls Try.prog 4 #[v] w fun e w' => e = .returned (.bool true) ∧ Below w.heap.size w w' := by
  obtain ⟨a, c, rfl, -, -, -⟩ := h.row
  have AW : Hid (∀ W, Calls Try.prog 9 #[] W fun e w' => e = .returned (.bool true) ∧ Below W.heap.size W w') := awake9
  have HV : Hid (IsBytes (fun _ => True) w (.slice a l.length c) l) := h
  clear h
  go_enter Try.func4, Try.ntmps4
  by_cases hl : (l.length : Int) ≤ 20000
  rotate_left
  · have hl' : (20000 : Int) < l.length := by omega
    go_upto_region 2 with (go_at_call 9; refine (AW.out _).mono ?_; rintro e w1 ⟨rfl, b1⟩)
    go_wp2_with (go_at_call 9; refine (AW.out _).mono ?_; rintro e w2 ⟨rfl, b2⟩)
    go_ret
    exact ⟨rfl, bnext b1 b2⟩
  have HL : Hid (l.length ≤ 20000) := by unfold Hid; omega
  go_upto_region 3 with (go_at_call 9; refine (AW.out _).mono ?_; rintro e w1 ⟨rfl, b1⟩)
  have V1 := HV.out.keep (Stay.of_below b1)
  have CR : Hid (Calls Try.prog 15 #[.slice a l.length c] w1 (ReadPost w1 l)) := cread V1 (by have := HL.out; omega)
  go_upto_region 4 with (go_at_call 15; refine CR.out.mono ?_; rintro e w2 ⟨⟨u, rfl, hu, -⟩, b2⟩; obtain ⟨ga, gc, ea, ec, oa, oc, rfl⟩ := hu.open)
  have B2 : Hid (Below w.heap.size w (w2.alloc (.cells #[.slice ga (readO l).1.funcs.length gc, .slice ea (readO l).1.datas.length ec, .slice oa (readO l).1.notes.length oc] 26))) := keep_alloc8 (bnext b1 b2) _
  have V2 := HV.out.keep (Stay.of_below B2.out)
  have BQ := box_cells hu 26
  have RR : Hid (Calls Try.prog 16 #[.slice a l.length c] (w2.alloc (.cells #[.slice ga (readO l).1.funcs.length gc, .slice ea (readO l).1.datas.length ec, .slice oa (readO l).1.notes.length oc] 26)) fun e w' => (∃ u, e = .returned (.tuple #[u, .int .i64 (readO l).2]) ∧ IsObj (Fresh (w2.alloc (.cells #[.slice ga (readO l).1.funcs.length gc, .slice ea (readO l).1.datas.length ec, .slice oa (readO l).1.notes.length oc] 26)).heap.size w') w' u (readO l).1) ∧ Below (w2.alloc (.cells #[.slice ga (readO l).1.funcs.length gc, .slice ea (readO l).1.datas.length ec, .slice oa (readO l).1.notes.length oc] 26)).heap.size (w2.alloc (.cells #[.slice ga (readO l).1.funcs.length gc, .slice ea (readO l).1.datas.length ec, .slice oa (readO l).1.notes.length oc] 26)) w') := rread9 V2 HL.out
  have HBQ := Hid.mk9 BQ
  clear BQ hu b1 b2 V1 V2 CR
  generalize (readO l).1 = q at *
  generalize (readO l).2 = er at *
  have hq : q = q := rfl
  generalize w2.alloc (.cells #[.slice ga q.funcs.length gc, .slice ea q.datas.length ec, .slice oa q.notes.length oc] 26) = w3 at HBQ B2 RR ⊢
  generalize w2.heap.size = Y at HBQ ⊢
  go_upto_region 5 with (go_at_call 16; refine RR.out.mono ?_; rintro e w4 ⟨⟨u, rfl, hu⟩, b4⟩; obtain ⟨ha, hc, ia, ic, ja, jc, rfl⟩ := hu.open)
  have B4 : Hid (Below w3.heap.size w3 (w4.alloc (.cells #[.slice ha q.funcs.length hc, .slice ia q.datas.length ic, .slice ja q.notes.length jc] 26))) := keep_alloc8 b4 _
  obtain ⟨x0, x1, x2, ox⟩ := HBQ.out _ B4.out
  obtain ⟨y0, y1, y2, oy⟩ := box_cells hu 26 _ (Below.refl _ _)
  have RS : Hid (Calls Try.prog 17 #[.agg #[.slice ga q.funcs.length gc, .slice ea q.datas.length ec, .slice oa q.notes.length oc], .agg #[.slice ha q.funcs.length hc, .slice ia q.datas.length ic, .slice ja q.notes.length jc]] (w4.alloc (.cells #[.slice ha q.funcs.length hc, .slice ia q.datas.length ic, .slice ja q.notes.length jc] 26)) fun e w' => Says e (q = q) ∧ Below (w4.alloc (.cells #[.slice ha q.funcs.length hc, .slice ia q.datas.length ic, .slice ja q.notes.length jc] 26)).heap.size (w4.alloc (.cells #[.slice ha q.funcs.length hc, .slice ia q.datas.length ic, .slice ja q.notes.length jc] 26)) w') := rsame9_any ox oy
  clear ox oy hu b4 RR HBQ
  generalize w4.alloc (.cells #[.slice ha q.funcs.length hc, .slice ia q.datas.length ic, .slice ja q.notes.length jc] 26) = w5 at *
  generalize w4.heap.size = Y2 at *
  go_wp2_with (go_at_call 17; refine RS.out.mono ?_; rintro e w6 ⟨hs, b6⟩; obtain rfl := hs.yes (by first | rfl | trivial))
  go_ret
  exact ⟨rfl, bnext B2.out (bnext B4.out b6)⟩
end Go.Proofs.Ytcbhnpjaaaefiaa
