/- What is wanted to read an image: numbers at places, and what is under way. -/
import Derived.Test.YtlpmkbdoofbmiaaImgRef
import Derived.Test.YtlpmkbdoofbmiaaObjPut
namespace Go.Proofs.Ytlpmkbdoofbmiaa
open Go.ChangeShapes Go.WideShapes Go.ChangeAt Go.RowKit
set_option linter.unusedVariables false
set_option linter.unusedSimpArgs false
theorem num_short9 {l : Bs} {k : Nat} (h : l.length < k + 4) : ∃ y, numR 4 (.good (l.drop k)) = (y, .bad 2) := num_short (by rw [List.length_drop]; omega)
/-- A number of four bytes at a place: it isn't there, or it is. -/
theorem four_num {l : Bs} (hb : Byt l) (k : Nat) : (fourZ l k = -1 ∧ ∃ y, numR 4 (.good (l.drop k)) = (y, .bad 2)) ∨ ∃ X : Nat, fourZ l k = X ∧ X < 4294967296 ∧ k + 4 ≤ l.length ∧ numR 4 (.good (l.drop k)) = ((X : Int), .good (l.drop (k + 4))) := by
  by_cases h : k + 4 ≤ l.length
  · right
    have bd := four_bd hb k
    have e : fourZ l k = sumL ((l.drop k).take 4) := by unfold fourZ; rw [if_pos h]
    have b0 : 0 ≤ sumL ((l.drop k).take 4) := (sumL_bd _ (fun x hx => hb x (List.mem_of_mem_drop (List.mem_of_mem_take hx)))).1
    obtain ⟨X, eX⟩ := Int.eq_ofNat_of_zero_le b0
    exact ⟨X, e.trans eX, by omega, h, by rw [num_at h, eX]⟩
  · left
    exact ⟨by unfold fourZ; rw [if_neg h], num_short9 (by omega)⟩
/-- The same of a number of at most so much. -/
theorem four_most {l : Bs} (hb : Byt l) (k : Nat) (m : Int) : (fourZ l k = -1 ∧ ∃ y, mostR m (.good (l.drop k)) = (y, .bad 2)) ∨ (∃ X : Nat, fourZ l k = X ∧ m < X ∧ X < 4294967296 ∧ k + 4 ≤ l.length ∧ ∃ y, mostR m (.good (l.drop k)) = (y, .bad 4)) ∨ ∃ X : Nat, fourZ l k = X ∧ (X : Int) ≤ m ∧ k + 4 ≤ l.length ∧ mostR m (.good (l.drop k)) = ((X : Int), .good (l.drop (k + 4))) := by
  rcases four_num hb k with ⟨h1, y, h2⟩ | ⟨X, h1, h2, h3, h4⟩
  · exact .inl ⟨h1, bind_bad (fun _ => keeps_bind (keeps_must _) fun _ => keeps_pure _) h2⟩
  · by_cases hm : (X : Int) ≤ m
    · refine .inr (.inr ⟨X, h1, hm, h3, ?_⟩)
      unfold mostR
      rw [bind_fwd h4, bind_fwd (must_fwd (by unfold withB; simp; omega) _)]; rfl
    · refine .inr (.inl ⟨X, h1, by omega, h2, h3, ?_⟩)
      unfold mostR
      rw [bind_fwd h4]
      exact bind_bad (fun _ => keeps_pure _) (must_no (by unfold withB; simp; omega))
theorem readI_bad {l : Bs} {y : ImM} {e : Int} (h : imgR (.good l) = (y, .bad e)) : readI l = (noIm, e) := by unfold readI; rw [h]
theorem readI_left {l b : Bs} {y : ImM} (h : imgR (.good l) = (y, .good b)) (hb : b ≠ []) : readI l = (noIm, 2) := by
  unfold readI; rw [h]
  cases b with
  | nil => exact absurd rfl hb
  | cons x r => rfl
theorem readI_good {l : Bs} {y : ImM} (h : imgR (.good l) = (y, .good [])) : readI l = (y, 0) := by unfold readI; rw [h]
theorem begin_dec {l : Bs} (h : Byt l) : ((textL l).toList == [83, 80, 88, 49]) = beginB l := by
  have h1 := str_beq (textL l) ⟨#[83, 80, 88, 49]⟩
  rw [ByteArray.toList_eq ⟨#[83, 80, 88, 49]⟩] at h1
  have e : (⟨#[83, 80, 88, 49]⟩ : ByteArray) = textL spxL := by decide +kernel
  rw [Bool.eq_iff_iff]
  unfold beginB
  rw [decide_eq_true_iff]
  refine h1.trans ⟨fun q => ?_, fun q => by rw [q, e]⟩
  rw [← bytes_textL l h, q]; decide +kernel
def nil5 : List Value := [.slice none 0 0, .int .i64 0, .slice none 0 0, .int .i64 0, .int .i64 0]
theorem set_apart9 (W : World) (X i : Nat) (x : Value) : Apart (G1 X) W (W.setCell ⟨X, i, none⟩ x) := apart_set (Below.refl _ _)
theorem sets5 {W : World} {X : Nat} {a0 a1 a2 a3 a4 : Value} (h : XAt W X [a0, a1, a2, a3, a4]) (x0 x1 x2 x3 x4 : Value) : XAt (((((W.setCell ⟨X, 0, none⟩ x0).setCell ⟨X, 1, none⟩ x1).setCell ⟨X, 2, none⟩ x2).setCell ⟨X, 3, none⟩ x3).setCell ⟨X, 4, none⟩ x4) X [x0, x1, x2, x3, x4] ∧ Apart (G1 X) W (((((W.setCell ⟨X, 0, none⟩ x0).setCell ⟨X, 1, none⟩ x1).setCell ⟨X, 2, none⟩ x2).setCell ⟨X, 3, none⟩ x3).setCell ⟨X, 4, none⟩ x4) :=
  ⟨(((((h.set 0 (by simp) x0).set 1 (by simp) x1).set 2 (by simp) x2).set 3 (by simp) x3).set 4 (by simp) x4), (((((set_apart9 _ X 0 x0).same (set_apart9 _ X 1 x1)).same (set_apart9 _ X 2 x2)).same (set_apart9 _ X 3 x3)).same (set_apart9 _ X 4 x4))⟩
theorem results_img {fn : Func} {p q : Tmp} (h : fn.results = #[.cell p 25, .tmp q]) (tmps : Array Value) (g : Nat) (hp : tmps.getD p undef = .pointer (some ⟨g, 0, none⟩)) (x : Value) (hq : tmps.getD q undef = x) (W : World) (a b c d e : Value) (hA : XAt W g [a, b, c, d, e]) :
    (results fn tmps).run Try.prog W = .ok (.tuple #[.agg #[a, b, c, d, e], x]) W := by
  have hp' : tmps[p]?.getD undef = .pointer (some ⟨g, 0, none⟩) := by simpa using hp
  have hq' : tmps[q]?.getD undef = x := by simpa using hq
  have e := run_loadVar_mid (P := Try.prog) W g 0 25 [a, b, c, d, e] _ (fun j v hv => by rw [Nat.zero_add]; exact hA.1 j v hv) Try.underlying25 rfl (by kernel_rfl)
  simp [results, h, hp', hq', asAddr, e]
/-- The answer of a Read: the image, or nothing, and the error. -/
def ReadOut (w : World) (l : Bs) (e : Ending) (w' : World) : Prop := (∃ u, e = .returned (.tuple #[u, .int .i64 (readI l).2]) ∧ IsImg (Fresh w.heap.size w') w' u (readI l).1) ∧ Below w.heap.size w w'
/-- Nothing, and an error. -/
theorem out_bad {w W : World} {l : Bs} {e : Int} (h : XAt W w.heap.size nil5) (hb : Below w.heap.size w W) (hr : readI l = (noIm, e)) :
    XAt (((((W.setCell ⟨w.heap.size, 0, none⟩ (.slice none 0 0)).setCell ⟨w.heap.size, 1, none⟩ (.int .i64 0)).setCell ⟨w.heap.size, 2, none⟩ (.slice none 0 0)).setCell ⟨w.heap.size, 3, none⟩ (.int .i64 0)).setCell ⟨w.heap.size, 4, none⟩ (.int .i64 0)) w.heap.size nil5 ∧
    ReadOut w l (.returned (.tuple #[.agg #[.slice none 0 0, .int .i64 0, .slice none 0 0, .int .i64 0, .int .i64 0], .int .i64 e])) (((((W.setCell ⟨w.heap.size, 0, none⟩ (.slice none 0 0)).setCell ⟨w.heap.size, 1, none⟩ (.int .i64 0)).setCell ⟨w.heap.size, 2, none⟩ (.slice none 0 0)).setCell ⟨w.heap.size, 3, none⟩ (.int .i64 0)).setCell ⟨w.heap.size, 4, none⟩ (.int .i64 0)) := by
  obtain ⟨k1, k2⟩ := sets5 h (.slice none 0 0) (.int .i64 0) (.slice none 0 0) (.int .i64 0) (.int .i64 0)
  refine ⟨k1, ⟨_, by rw [hr], by rw [hr]; exact nil_img _ _⟩, hb.trans (k2.low (fun k hk => by have e : k = w.heap.size := hk; omega) hb.size)⟩
/-- An image under way: the result R, the variable M. -/
structure Ri (w : World) (M : Nat) (cs : List Value) (W : World) : Prop where
  xr : XAt W w.heap.size nil5
  xm : XAt W M cs
  mr : w.heap.size < M ∧ M < W.heap.size
  low : Below w.heap.size w W
section
variable {w : World} {M : Nat} {cs : List Value} {W W' : World}
theorem Ri.later (h : Ri w M cs W) (hb : Below W.heap.size W W') : Ri w M cs W' := ⟨h.xr.later (by have := h.mr; omega) hb, h.xm.later h.mr.2 hb, ⟨h.mr.1, Nat.lt_of_lt_of_le h.mr.2 hb.size⟩, bnext h.low hb⟩
theorem Ri.set (h : Ri w M cs W) (i : Nat) (hi : i < cs.length) (v : Value) : Ri w M (cs.set i v) (W.setCell ⟨M, i, none⟩ v) :=
  ⟨h.xr.keep (Below.heap_setCell _ _ _ _ (by have := h.mr.1; simp; omega)), h.xm.set i hi v, by simpa using h.mr, h.low.trans ((low_set v (Nat.le_refl _)).mono (Nat.le_of_lt h.mr.1))⟩
theorem Ri.grown (h : Ri w M cs W) {ob : Option Nat} (gr : W.grownBy W' ob) (ho : ∀ q, ob = some q → M < q) : Ri w M cs W' := by
  have hm := h.mr
  refine ⟨h.xr.keep (gr.block _ (by omega) fun e => by have := ho _ e.symm; omega), h.xm.keep (gr.block _ hm.2 fun e => by have := ho _ e.symm; omega), ⟨hm.1, Nat.lt_of_lt_of_le hm.2 gr.size⟩, h.low.trans (Below.grown (Below.refl _ _) gr (by omega) fun q hq => by have := ho _ hq; omega)⟩
end
/-- A row of words of one's own. -/
def OwnW (base : Nat) (w : World) (v : Value) (l : List Int) : Prop := w.ownsRow base 39 1 v l.length (l.map fun x => .int .u32 x)
theorem slW : (Try.prog.info? 39).map (fun i => (i.zero, i.size, i.bytes)) = some (some (.int .u32 0), 1, 4) := by kernel_rfl
theorem OwnW.later {base : Nat} {w w' : World} {v : Value} {l : List Int} (h : OwnW base w v l) (hb : Below w.heap.size w w') : OwnW base w' v l := own_below h hb
end Go.Proofs.Ytlpmkbdoofbmiaa
