/- The walk over what is read of bytes, beside the document's reader. -/
import Derived.Test.YtlpmkbdoofbmiaaImgWritesW
namespace Go.Proofs.Ytlpmkbdoofbmiaa
open Go.ChangeShapes Go.WideShapes Go.ChangeAt Go.RowKit
set_option linter.unusedVariables false
set_option linter.unusedSimpArgs false
set_option maxRecDepth 100000 in
set_option maxHeartbeats 2000000 in
theorem ireads_walk (w : World) (v : Value) (l : Bs) (h : IsBytes (fun _ => True) w v l) :
    Calls Try.prog 4 #[v] w fun e w' => e = .returned (.bool true) ∧ Below w.heap.size w w' := by
  obtain ⟨a, c, rfl, -, -, -⟩ := h.row
  have AW : Hid (∀ W, Calls Try.prog 7 #[] W fun e w' => e = .returned (.bool true) ∧ Below W.heap.size W w') := awake15
  have HV : Hid (IsBytes (fun _ => True) w (.slice a l.length c) l) := h
  clear h
  go_enter Try.func4, Try.ntmps4
  by_cases hl : (l.length : Int) ≤ 100000
  rotate_left
  · have hl' : (100000 : Int) < l.length := by omega
    go_upto_region 2 with (go_at_call 7; refine (AW.out _).mono ?_; rintro e w1 ⟨rfl, b1⟩)
    go_wp2_with (go_at_call 7; refine (AW.out _).mono ?_; rintro e w2 ⟨rfl, b2⟩)
    go_ret
    exact ⟨rfl, bnext b1 b2⟩
  have HL : Hid (l.length ≤ 100000) := by unfold Hid; omega
  go_upto_region 3 with (go_at_call 7; refine (AW.out _).mono ?_; rintro e w1 ⟨rfl, b1⟩)
  have V1 := HV.out.keep (Stay.of_below b1)
  have CR : Hid (Calls Try.prog 13 #[.slice a l.length c] w1 (ReadI w1 l)) := iread V1 (by have := HL.out; omega)
  go_upto_region 4 with (go_at_call 13; refine CR.out.mono ?_; rintro e w2 ⟨⟨u, rfl, hu0⟩, b2⟩; have hu := hu0.img; clear hu0; obtain ⟨ga, gc, ea, ec, rfl, -, -⟩ := hu.open)
  have B2 : Hid (Below w.heap.size w (w2.alloc (.cells #[.slice ga (readI l).1.code.length gc, .int .i64 (readI l).1.entry, .slice ea (readI l).1.data.length ec, .int .i64 (readI l).1.write, .int .i64 (readI l).1.more] 25))) := keep_alloc8 (bnext b1 b2) _
  have V2 := HV.out.keep (Stay.of_below B2.out)
  have HBQ := Hid.mk9 (box_img hu 25)
  have RR : Hid (Calls Try.prog 14 #[.slice a l.length c] (w2.alloc (.cells #[.slice ga (readI l).1.code.length gc, .int .i64 (readI l).1.entry, .slice ea (readI l).1.data.length ec, .int .i64 (readI l).1.write, .int .i64 (readI l).1.more] 25)) (ReadOut (w2.alloc (.cells #[.slice ga (readI l).1.code.length gc, .int .i64 (readI l).1.entry, .slice ea (readI l).1.data.length ec, .int .i64 (readI l).1.write, .int .i64 (readI l).1.more] 25)) l)) := rread15 V2 HL.out
  unfold ReadOut at RR
  clear hu b1 b2 V1 V2 CR
  generalize (readI l).1 = q at *
  generalize (readI l).2 = er at *
  obtain ⟨C, eC⟩ : ∃ C, q.code.length = C := ⟨_, rfl⟩
  obtain ⟨D, eD⟩ : ∃ D, q.data.length = D := ⟨_, rfl⟩
  obtain ⟨en, een⟩ : ∃ x, q.entry = x := ⟨_, rfl⟩
  obtain ⟨wt, ewt⟩ : ∃ x, q.write = x := ⟨_, rfl⟩
  obtain ⟨mo, emo⟩ : ∃ x, q.more = x := ⟨_, rfl⟩
  have EQ : Hid (q.code.length = C ∧ q.data.length = D ∧ q.entry = en ∧ q.write = wt ∧ q.more = mo) := ⟨eC, eD, een, ewt, emo⟩
  rw [eC, eD, een, ewt, emo] at HBQ B2 RR ⊢
  clear eC eD een ewt emo
  generalize w2.alloc (.cells #[.slice ga C gc, .int .i64 en, .slice ea D ec, .int .i64 wt, .int .i64 mo] 25) = w3 at HBQ B2 RR ⊢
  generalize w2.heap.size = Y at HBQ ⊢
  go_upto_region 5 with (go_at_call 14; refine RR.out.mono ?_; rintro e w4 ⟨⟨u, rfl, hu⟩, b4⟩; obtain ⟨ha, hc, ia, ic, rfl, -, -⟩ := hu.open; rw [EQ.out.1, EQ.out.2.1, EQ.out.2.2.1, EQ.out.2.2.2.1, EQ.out.2.2.2.2] at hu ⊢)
  have B4 : Hid (Below w3.heap.size w3 (w4.alloc (.cells #[.slice ha C hc, .int .i64 en, .slice ia D ic, .int .i64 wt, .int .i64 mo] 25))) := keep_alloc8 b4 _
  obtain ⟨⟨x0, x1, x2, x3, x4⟩, ox⟩ := HBQ.out _ B4.out
  obtain ⟨⟨y0, y1, y2, y3, y4⟩, oy⟩ := box_img hu 25 _ (Below.refl _ _)
  have RS := Hid.mk9 (rsame14_any ox oy)
  clear ox oy hu b4 RR HBQ
  generalize w4.alloc (.cells #[.slice ha C hc, .int .i64 en, .slice ia D ic, .int .i64 wt, .int .i64 mo] 25) = w5 at *
  generalize w4.heap.size = Y2 at *
  go_wp2_with (go_at_call 15; refine RS.out.mono ?_; rintro e w6 ⟨hs, b6⟩; obtain rfl := hs.yes (by first | rfl | trivial))
  go_ret
  exact ⟨rfl, bnext B2.out (bnext B4.out b6)⟩
end Go.Proofs.Ytlpmkbdoofbmiaa
