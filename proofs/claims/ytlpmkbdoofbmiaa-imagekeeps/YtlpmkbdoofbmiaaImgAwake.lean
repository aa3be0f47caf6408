/- Answers that the document fixes. -/
import Derived.Test.YtlpmkbdoofbmiaaImgRead
import Derived.Test.YtlpmkbdoofbmiaaImgPut
import Derived.Lib.SlBytesConst
namespace Go.Proofs.Ytlpmkbdoofbmiaa
open Go.ChangeShapes Go.WideShapes Go.ChangeAt Go.RowKit
set_option linter.unusedVariables false
set_option linter.unusedSimpArgs false
def oneI : ImM := ⟨[7], 0, [], 0, 2⟩
def oneL : Bs := [83, 80, 88, 49, 1, 0, 0, 0, 7, 0, 0, 0, 0, 0, 0, 0, 0, 0, 0, 0, 0, 0, 0, 0, 2, 0, 0, 0]
theorem oneI_ok : imgOk oneI := ⟨⟨by decide, fun x h => by
  have : x = 7 := by simpa [oneI] using h
  subst this
  exact ⟨by decide, by decide⟩⟩, ⟨by decide, by decide⟩, by decide, ⟨by decide, by decide⟩, by decide, by decide⟩
theorem oneI_bytes : imgW oneI = oneL := by rfl
theorem oneI_read : readI oneL = (oneI, 0) := by rw [← oneI_bytes]; exact readI_write _ oneI_ok
theorem twoI_read : readI [83, 80, 76, 49] = (noIm, 4) := img_1 (by decide) (by decide)
theorem oneI_open {base : Nat} {w : World} {u : Value} (h : OwnI base w u oneI) : ∃ g cc da dc, u = .agg #[.slice (some ⟨g, 0, none⟩) 1 cc, .int .i64 0, .slice da 0 dc, .int .i64 0, .int .i64 2] ∧ w.cell? ⟨g, 0, none⟩ = some (.int .u32 7) := by
  obtain ⟨ca, cc, da, dc, rfl, ⟨oc, -⟩, -, -⟩ := h
  have o : w.ownsRow base 39 1 (.slice ca 1 cc) 1 [.int .u32 7] := oc
  obtain ⟨g, cap', hv, -, -⟩ := o.form (by decide)
  simp only [Value.slice.injEq] at hv
  obtain ⟨rfl, -, rfl⟩ := hv
  refine ⟨g, cc, da, dc, rfl, ?_⟩
  have := o.cellAt 0 (by decide)
  simpa using this
theorem noIm_open {base : Nat} {w : World} {u : Value} (h : OwnI base w u noIm) : ∃ ca cc da dc, u = .agg #[.slice ca 0 cc, .int .i64 0, .slice da 0 dc, .int .i64 0, .int .i64 0] := by
  obtain ⟨ca, cc, da, dc, rfl, -, -, -⟩ := h
  exact ⟨ca, cc, da, dc, rfl⟩
set_option maxRecDepth 100000 in
set_option maxHeartbeats 4000000 in
theorem awake15 (w : World) : Calls Try.prog 7 #[] w fun e w' => e = .returned (.bool true) ∧ Below w.heap.size w w' := by
  have CW : Hid (∀ W v p, IsImg (fun _ => True) W v p → Calls Try.prog 9 #[v] W (WriteI W p)) := fun W v p h => iwrite h
  have CR : Hid (∀ (A : Nat → Prop) W v l, IsBytes A W v l → l.length ≤ 2000000 → Calls Try.prog 13 #[v] W (ReadI W l)) := fun A W v l h hl => iread h hl
  have L0 : Hid (IsImg (fun _ => True) (w.alloc (.cells #[.int .u32 7] 39)) (.agg #[.slice (some ⟨w.heap.size, 0, none⟩) 1 1, .int .i64 0, .slice none 0 0, .int .i64 0, .int .i64 2]) oneI) := by
    refine ⟨_, _, rfl, ⟨⟨some ⟨w.heap.size, 0, none⟩, 1, rfl, ⟨⟨Nat.le_refl _, fun e => by cases e⟩, by decide⟩, fun _ _ => trivial, .inr ⟨_, _, rfl, fun i x hx => ?_⟩⟩, oneI_ok.1.2⟩, ⟨LstA.nil, fun _ h => by cases h⟩⟩
    rcases i with _ | i
    · have : x = 7 := by simpa [oneI] using hx.symm
      subst this
      exact new_cell' w _ _ 0 _ rfl
    · simp [oneI] at hx
  have U0 : Hid (Below w.heap.size w (w.alloc (.cells #[.int .u32 7] 39))) := keep_alloc8 (Below.refl _ _) _
  go_enter Try.func7, Try.ntmps7
  go_upto_region 2 with (go_at_call 9; refine (CW.out _ _ _ L0.out).mono ?_; rintro e w1 ⟨h1 | ⟨h1, -⟩, b1⟩; obtain ⟨-, v1, rfl, o1⟩ := h1; rotate_left; exact absurd oneI_ok h1)
  rw [oneI_bytes] at o1
  obtain ⟨va, vc, rfl⟩ := own_form (show w1.ownsRow (w.alloc (.cells #[.int .u32 7] 39)).heap.size 5 1 v1 28 _ from o1)
  have B1 : Hid (Below w.heap.size w w1) := bnext U0.out b1
  have V1 : Hid (IsBytes (Fresh (w.alloc (.cells #[.int .u32 7] 39)).heap.size w1) w1 (.slice va 28 vc) oneL) := own_is o1 (by intro x hx; simp [oneL] at hx; omega)
  clear o1 b1 CW L0 U0
  go_upto_region 3 with (go_at_call 13; refine (CR.out _ _ _ _ V1.out (by decide)).mono ?_; rintro e w3 ⟨⟨u, rfl, hu⟩, b3⟩; rw [oneI_read] at hu ⊢; obtain ⟨g, cc, da, dc, rfl, hc⟩ := oneI_open hu)
  have up := keep_alloc8 (Below.refl _ w3) (.cells #[.slice (some ⟨g, 0, none⟩) 1 cc, .int .i64 0, .slice da 0 dc, .int .i64 0, .int .i64 2] 25)
  have B3 : Hid (Below w.heap.size w (w3.alloc (.cells #[.slice (some ⟨g, 0, none⟩) 1 cc, .int .i64 0, .slice da 0 dc, .int .i64 0, .int .i64 2] 25))) := keep_alloc8 (bnext B1.out b3) _
  have X3 : Hid (XAt (w3.alloc (.cells #[.slice (some ⟨g, 0, none⟩) 1 cc, .int .i64 0, .slice da 0 dc, .int .i64 0, .int .i64 2] 25)) w3.heap.size [.slice (some ⟨g, 0, none⟩) 1 cc, .int .i64 0, .slice da 0 dc, .int .i64 0, .int .i64 2]) := XAt.new _ _ _
  have hc3 := Hid.mk9 (cell_later' hc up)
  clear hc hu up b3 V1 B1
  generalize w3.alloc (.cells #[.slice (some ⟨g, 0, none⟩) 1 cc, .int .i64 0, .slice da 0 dc, .int .i64 0, .int .i64 2] 25) = w4 at B3 X3 hc3 ⊢
  generalize w3.heap.size = X at X3 ⊢
  have hX : Hid (X < w4.heap.size) := X3.out.lt (by simp)
  have hcv := Lib.run_convert_bytes_const (P := Try.prog) w4 23 5 #[.int .u8 83, .int .u8 80, .int .u8 76, .int .u8 49] 4 4 Try.underlying23 Try.underlying5
  have L1 : Hid (IsBytes (fun _ => True) (w4.alloc (.cells #[.int .u8 83, .int .u8 80, .int .u8 76, .int .u8 49] 5 (4, 5))) (.slice (some ⟨w4.heap.size, 0, none⟩) 4 4) [83, 80, 76, 49]) := lit_bytes w4 _ _ [83, 80, 76, 49] rfl (by intro x hx; simp at hx; omega) (by decide)
  have U1 : Hid (Below w4.heap.size w4 (w4.alloc (.cells #[.int .u8 83, .int .u8 80, .int .u8 76, .int .u8 49] 5 (4, 5)))) := keep_alloc8 (Below.refl _ _) _
  go_upto_region 4 with (go_at_call 13; refine (CR.out _ _ _ _ L1.out (by decide)).mono ?_; rintro e w5 ⟨⟨u, rfl, hu⟩, b5⟩; rw [twoI_read] at hu ⊢; obtain ⟨ga, gc, ea, ec, rfl⟩ := noIm_open hu)
  have B5 : Hid (Below w4.heap.size w4 (w5.alloc (.cells #[.slice ga 0 gc, .int .i64 0, .slice ea 0 ec, .int .i64 0, .int .i64 0] 25))) := keep_alloc8 (bnext U1.out b5) _
  generalize w5.alloc (.cells #[.slice ga 0 gc, .int .i64 0, .slice ea 0 ec, .int .i64 0, .int .i64 0] 25) = w6 at B5 ⊢
  clear hcv L1 U1 b5 hu
  obtain ⟨⟨x0, x1, x2, x3, x4⟩, -⟩ := XAt.five (X3.out.later hX.out B5.out)
  have z0 := cell_later' hc3.out B5.out
  go_wp2
  all_goals (try go_quiet (fail))
  all_goals (try go_wp2)
  all_goals
    go_ret
    exact ⟨rfl, by first | exact bnext B3.out B5.out | exact below_drewN (bnext B3.out B5.out) _⟩
end Go.Proofs.Ytlpmkbdoofbmiaa
