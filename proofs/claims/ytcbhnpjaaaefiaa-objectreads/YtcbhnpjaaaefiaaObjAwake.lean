/- Answers that the document fixes. -/
import Derived.Test.YtcbhnpjaaaefiaaObj
import Derived.Lib.SlBytesConst
namespace Go.Proofs.Ytcbhnpjaaaefiaa
open Go.ChangeShapes Go.WideShapes Go.ChangeAt Go.RowKit
set_option linter.unusedVariables false
set_option linter.unusedSimpArgs false
theorem nil_obj (A : Nat → Prop) (w : World) : IsObj A w (.agg #[.slice none 0 0, .slice none 0 0, .slice none 0 0]) noObj := ⟨_, _, _, rfl, LstA.nil, LstA.nil, LstA.nil⟩
theorem nil_ok : objOk noObj := ⟨⟨by decide, fun _ h => by cases h⟩, ⟨by decide, fun _ h => by cases h⟩, ⟨by decide, fun _ h => by cases h⟩⟩
theorem nil_few : fewO noObj := ⟨⟨by decide, by decide, by decide⟩, (fun _ h => by cases h), fun _ h => by cases h⟩
/-- A literal of bytes. -/
theorem lit_bytes (w : World) (C : Array Value) (fr : Nat × Nat) (l : Bs) (hC : C.toList = l.map fun x => .int .u8 x) (hb : Byt l) (hm : l.length ≤ maxLen) : IsBytes (fun _ => True) (w.alloc (.cells C 5 fr)) (.slice (some ⟨w.heap.size, 0, none⟩) l.length l.length) l := by
  refine ⟨⟨_, _, rfl, ⟨⟨Nat.le_refl _, fun e => by cases e⟩, hm⟩, fun _ _ => trivial, .inr ⟨_, _, rfl, fun i x hx => ?_⟩⟩, hb⟩
  show (w.alloc (.cells C 5 fr)).cell? ⟨w.heap.size, 0 + i * 1, none⟩ = _
  rw [Nat.zero_add, Nat.mul_one, World.cell?_alloc_mark, ← Array.getElem?_toList, hC, List.getElem?_map, hx]
  rfl
def oneObj : ObjM := ⟨[], [], [⟨⟨#[102]⟩, 2⟩]⟩
theorem one_ok : objOk oneObj := ⟨⟨by decide, fun _ h => by cases h⟩, ⟨by decide, fun _ h => by cases h⟩, ⟨by decide, fun x h => by
  have : x = ⟨⟨#[102]⟩, 2⟩ := by simpa [oneObj] using h
  subst this
  exact ⟨by decide, by decide, by decide⟩⟩⟩
theorem one_bytes : objW oneObj = [83, 80, 76, 49, 0, 0, 0, 0, 1, 0, 1, 102, 2] := by rfl
theorem nil_bytes : objW noObj = [83, 80, 76, 49, 0, 0, 0, 0, 0, 0] := by rfl
theorem one_read : readO [83, 80, 76, 49, 0, 0, 0, 0, 1, 0, 1, 102, 2] = (oneObj, 0) := by rw [← one_bytes]; exact read_write _ one_ok
theorem two_read : readO [83, 80, 76, 50] = (noObj, 4) := by rfl
theorem own_is {base : Nat} {w : World} {v : Value} {l : Bs} (h : OwnB base w v l) (hb : Byt l) : IsBytes (Fresh base w) w v l := own_bytesL h hb
set_option maxRecDepth 100000 in
set_option maxHeartbeats 4000000 in
theorem awake9 (w : World) : Calls Try.prog 9 #[] w fun e w' => e = .returned (.bool true) ∧ Below w.heap.size w w' := by
  have CW : Hid (∀ W, Calls Try.prog 11 #[.agg #[.slice none 0 0, .slice none 0 0, .slice none 0 0]] W (WritePost W noObj)) := fun W => cwrite (nil_obj (fun _ => True) W) nil_few
  have CR : Hid (∀ W v l, IsBytes (fun _ => True) W v l → l.length ≤ 2000000 → Calls Try.prog 15 #[v] W (ReadPost W l)) := fun W v l h hl => cread h hl
  have CS : Hid (∀ (A : Nat → Prop) W v p, IsObj A W v p → Calls Try.prog 18 #[v, v] W fun e w' => Says e (p = p) ∧ Below W.heap.size W w') := fun A W v p h => csame h h
  go_enter Try.func9, Try.ntmps9
  go_upto_region 2 with (go_at_call 11; refine (CW.out _).mono ?_; rintro e w1 ⟨h1 | ⟨h1, -⟩, b1⟩; obtain ⟨-, v1, rfl, o1⟩ := h1; rotate_left; exact absurd nil_ok h1)
  have V1 : Hid (IsBytes (Fresh w.heap.size w1) w1 v1 [83, 80, 76, 49, 0, 0, 0, 0, 0, 0]) := own_is o1 (by rw [← nil_bytes]; exact objW_byt _ (fun _ h => by cases h))
  have B1 : Hid (Below w.heap.size w w1) := b1
  clear o1 b1 CW
  have hcv := Lib.run_convert_bytes_const (P := Try.prog) w1 29 5 #[.int .u8 83, .int .u8 80, .int .u8 76, .int .u8 49, .int .u8 0, .int .u8 0, .int .u8 0, .int .u8 0, .int .u8 1, .int .u8 0, .int .u8 1, .int .u8 102, .int .u8 2] 13 13 Try.underlying29 Try.underlying5
  have L1 : Hid (IsBytes (fun _ => True) (w1.alloc (.cells #[.int .u8 83, .int .u8 80, .int .u8 76, .int .u8 49, .int .u8 0, .int .u8 0, .int .u8 0, .int .u8 0, .int .u8 1, .int .u8 0, .int .u8 1, .int .u8 102, .int .u8 2] 5 (13, 14))) (.slice (some ⟨w1.heap.size, 0, none⟩) 13 13) [83, 80, 76, 49, 0, 0, 0, 0, 1, 0, 1, 102, 2]) := lit_bytes w1 _ _ [83, 80, 76, 49, 0, 0, 0, 0, 1, 0, 1, 102, 2] rfl (by intro x hx; simp at hx; omega) (by decide)
  have U1 : Hid (Below w1.heap.size w1 (w1.alloc (.cells #[.int .u8 83, .int .u8 80, .int .u8 76, .int .u8 49, .int .u8 0, .int .u8 0, .int .u8 0, .int .u8 0, .int .u8 1, .int .u8 0, .int .u8 1, .int .u8 102, .int .u8 2] 5 (13, 14)))) := keep_alloc8 (Below.refl _ _) _
  go_upto_region 3 with (go_at_call 15; refine (CR.out _ _ _ L1.out (by decide)).mono ?_; rintro e w3 ⟨⟨u, rfl, hu, -⟩, b3⟩; rw [one_read] at hu ⊢; obtain ⟨fa, fc, da, dc, na, nc, rfl⟩ := hu.open)
  have B3 : Hid (Below w.heap.size w (w3.alloc (.cells #[.slice fa oneObj.funcs.length fc, .slice da oneObj.datas.length dc, .slice na oneObj.notes.length nc] 26))) := keep_alloc8 (bnext (bnext B1.out U1.out) b3) _
  have up := keep_alloc8 (Below.refl _ w3) (.cells #[.slice fa oneObj.funcs.length fc, .slice da oneObj.datas.length dc, .slice na oneObj.notes.length nc] 26)
  have X3 : Hid (XAt (w3.alloc (.cells #[.slice fa oneObj.funcs.length fc, .slice da oneObj.datas.length dc, .slice na oneObj.notes.length nc] 26)) w3.heap.size [.slice fa oneObj.funcs.length fc, .slice da oneObj.datas.length dc, .slice na oneObj.notes.length nc]) := XAt.new _ _ _
  have Q3 : Hid (IsObj (Fresh (w1.alloc (.cells #[.int .u8 83, .int .u8 80, .int .u8 76, .int .u8 49, .int .u8 0, .int .u8 0, .int .u8 0, .int .u8 0, .int .u8 1, .int .u8 0, .int .u8 1, .int .u8 102, .int .u8 2] 5 (13, 14))).heap.size w3) (w3.alloc (.cells #[.slice fa oneObj.funcs.length fc, .slice da oneObj.datas.length dc, .slice na oneObj.notes.length nc] 26)) (.agg #[.slice fa oneObj.funcs.length fc, .slice da oneObj.datas.length dc, .slice na oneObj.notes.length nc]) oneObj) := hu.keep (Stay.of_below up)
  have V3 : Hid (IsBytes (Fresh w.heap.size w1) (w3.alloc (.cells #[.slice fa oneObj.funcs.length fc, .slice da oneObj.datas.length dc, .slice na oneObj.notes.length nc] 26)) v1 [83, 80, 76, 49, 0, 0, 0, 0, 0, 0]) := V1.out.keep (Stay.of_below (keep_alloc8 (bnext U1.out b3) _))
  generalize w3.alloc (.cells #[.slice fa oneObj.funcs.length fc, .slice da oneObj.datas.length dc, .slice na oneObj.notes.length nc] 26) = w4 at B3 X3 Q3 V3 ⊢
  generalize Fresh (w1.alloc (.cells #[.int .u8 83, .int .u8 80, .int .u8 76, .int .u8 49, .int .u8 0, .int .u8 0, .int .u8 0, .int .u8 0, .int .u8 1, .int .u8 0, .int .u8 1, .int .u8 102, .int .u8 2] 5 (13, 14))).heap.size w3 = A3 at Q3
  clear hcv L1 U1 hu up b3 V1 B1
  have hX : Hid (w3.heap.size < w4.heap.size) := X3.out.lt (by simp)
  have hcv := Lib.run_convert_bytes_const (P := Try.prog) w4 29 5 #[.int .u8 83, .int .u8 80, .int .u8 76, .int .u8 50] 4 4 Try.underlying29 Try.underlying5
  have L1 : Hid (IsBytes (fun _ => True) (w4.alloc (.cells #[.int .u8 83, .int .u8 80, .int .u8 76, .int .u8 50] 5 (4, 5))) (.slice (some ⟨w4.heap.size, 0, none⟩) 4 4) [83, 80, 76, 50]) := lit_bytes w4 _ _ [83, 80, 76, 50] rfl (by intro x hx; simp at hx; omega) (by decide)
  have U1 : Hid (Below w4.heap.size w4 (w4.alloc (.cells #[.int .u8 83, .int .u8 80, .int .u8 76, .int .u8 50] 5 (4, 5)))) := keep_alloc8 (Below.refl _ _) _
  go_upto_region 4 with (go_at_call 15; refine (CR.out _ _ _ L1.out (by decide)).mono ?_; rintro e w5 ⟨⟨u, rfl, hu, -⟩, b5⟩; rw [two_read] at hu ⊢; obtain ⟨ga, gc, ea, ec, oa, oc, rfl⟩ := hu.open)
  have B5 : Hid (Below w4.heap.size w4 (w5.alloc (.cells #[.slice ga noObj.funcs.length gc, .slice ea noObj.datas.length ec, .slice oa noObj.notes.length oc] 26))) := keep_alloc8 (bnext U1.out b5) _
  generalize w5.alloc (.cells #[.slice ga noObj.funcs.length gc, .slice ea noObj.datas.length ec, .slice oa noObj.notes.length oc] 26) = w6 at B5 ⊢
  clear hcv L1 U1 b5 hu
  have OB : Hid (IsObj A3 w6 (.agg #[.slice fa oneObj.funcs.length fc, .slice da oneObj.datas.length dc, .slice na oneObj.notes.length nc]) oneObj) := Q3.out.keep (Stay.of_below B5.out)
  obtain ⟨vf, vd, vn, ev, -, -, qn⟩ := Q3.out
  obtain ⟨na', nc', en, -, -, nx⟩ := LstA.open qn
  obtain ⟨q, off, x, rfl, -, hx, z0, z1, -⟩ := nx 0 (by decide)
  have ena : na = some ⟨q, off, none⟩ := by
    have h := ev
    simp only [Value.agg.injEq, Array.mk.injEq, List.cons.injEq, and_true] at h
    rw [← h.2.2] at en
    simp only [Value.slice.injEq] at en
    exact en.1
  subst ena
  clear ev en qn
  obtain rfl : x = ⟨⟨#[102]⟩, 2⟩ := by simpa [oneObj] using hx.symm
  replace z0 := cell_later' z0 B5.out
  replace z1 := cell_later' z1 B5.out
  rw [Nat.zero_mul, Nat.add_zero] at z0 z1
  have x0 := (X3.out.later hX.out B5.out).1 0 _ rfl
  have x1 := (X3.out.later hX.out B5.out).1 1 _ rfl
  have x2 := (X3.out.later hX.out B5.out).1 2 _ rfl
  obtain ⟨va, vc, rfl, -, hvb, -⟩ := (V3.out.keep (Stay.of_below B5.out)).row
  have CV := text_conv w6 va _ vc _ hvb
  have et : textF 10 (gF [83, 80, 76, 49, 0, 0, 0, 0, 0, 0]) = ⟨#[83, 80, 76, 49, 0, 0, 0, 0, 0, 0]⟩ := by rfl
  have CV' : (convert 29 9 (.slice va 10 vc)).run Try.prog w6 = .ok (.string ⟨#[83, 80, 76, 49, 0, 0, 0, 0, 0, 0]⟩) w6 := by rw [← et]; exact CV
  clear CV et hvb nx hx hX
  go_wp2_with (go_at_call 18; refine (CS.out _ _ _ _ OB.out).mono ?_; rintro e w7 ⟨hs, b7⟩; obtain rfl := hs.yes (by first | rfl | trivial))
  go_ret
  exact ⟨rfl, bnext (bnext B3.out B5.out) b7⟩
end Go.Proofs.Ytcbhnpjaaaefiaa
