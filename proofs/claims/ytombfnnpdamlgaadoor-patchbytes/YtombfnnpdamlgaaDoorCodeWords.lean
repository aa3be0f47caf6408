/- The plain arithmetic of words and instructions, class by class: which words are instructions', and what stands in them. -/
import Derived.Test.YtombfnnpdamlgaaDoorCodeGet
namespace Go.Proofs.YtombfnnpdamlgaaDoor
open Go.RowKit
set_option linter.unusedVariables false

theorem imm_z0 (x : Int) : immZ x 0 false = 0 := by unfold immZ; rw [if_neg (by decide), cut_0]
theorem imm_z16u (x : Int) : immZ x 16 false = x % 65536 := by unfold immZ; rw [if_neg (by decide), cut_16]
theorem sign_8 (x : Int) : signZ x 8 = if x % 256 < 128 then x % 256 else x % 256 - 256 := by unfold signZ; rw [if_pos (by omega)]; rfl
theorem sign_16 (x : Int) : signZ x 16 = if x % 65536 < 32768 then x % 65536 else x % 65536 - 65536 := by unfold signZ; rw [if_pos (by omega)]; rfl
theorem sign_24 (x : Int) : signZ x 24 = if x % 16777216 < 8388608 then x % 16777216 else x % 16777216 - 16777216 := by unfold signZ; rw [if_pos (by omega)]; rfl
theorem imm_zs (x n : Int) : immZ x n true = signZ x n := by unfold immZ; rw [if_pos rfl]
theorem g_of (x r wd : Int) (s : Bool) (h : Has (gO x) r wd s) : gA x = fldA x r ∧ gB x = fldB x r ∧ gC x = fldC x r ∧ gI x = immZ x wd s ∧ widthOf (gO x) = wd := by
  obtain ⟨e1, e2, e3⟩ := h
  unfold gA gB gC gI; rw [e1, e2, e3]; exact ⟨rfl, rfl, rfl, rfl, rfl⟩

/-- ok and the fields of a word of a class, beside the document's own reading (a, b, c, i). -/
def Reads (x a b c i : Int) (extra : Bool) : Prop := okG x = (extra && rightB (gO x) a b c i) ∧ (okG x = true → gA x = a ∧ gB x = b ∧ gC x = c ∧ gI x = i)

theorem reads_three (x : Int) (x0 : 0 ≤ x) (x1 : x < 4294967296) (h : 1 ≤ gO x ∧ gO x ≤ 7) : Reads x (x / 1048576 % 16) (x / 65536 % 16) (x % 65536) 0 true := by
  obtain ⟨ea, eb, ec, ei, ew⟩ := g_of x _ _ _ (has_three _ h)
  unfold Reads okG putZ
  rw [ea, eb, ec, ei, ew, imm_z0, cut_0, right_three _ _ _ _ _ h, right_three _ _ _ _ _ h]
  unfold fldA fldB fldC gO
  simp only [if_pos (show (0 : Int) < 3 by decide), if_pos (show (1 : Int) < 3 by decide), if_pos (show (2 : Int) < 3 by decide)]
  refine ⟨?_, ?_⟩
  · rw [Bool.eq_iff_iff]; simp; omega
  · simp; omega
theorem reads_near (x : Int) (x0 : 0 ≤ x) (x1 : x < 4294967296) (h : gO x = 8 ∨ 11 ≤ gO x ∧ gO x ≤ 14) : Reads x (x / 1048576 % 16) (x / 65536 % 16) 0 (signZ x 16) true := by
  obtain ⟨ea, eb, ec, ei, ew⟩ := g_of x _ _ _ (has_near _ h)
  unfold Reads okG putZ
  rw [ea, eb, ec, ei, ew, imm_zs, cut_16, right_near _ _ _ _ _ h, right_near _ _ _ _ _ h, sign_16]
  unfold fldA fldB fldC gO
  simp only [if_pos (show (0 : Int) < 2 by decide), if_pos (show (1 : Int) < 2 by decide), if_neg (show ¬ (2 : Int) < 2 by decide)]
  refine ⟨?_, ?_⟩
  · rw [Bool.eq_iff_iff]; split <;> simp <;> omega
  · intro _; simp
theorem reads_ori (x : Int) (x0 : 0 ≤ x) (x1 : x < 4294967296) (h : gO x = 10) : Reads x (x / 1048576 % 16) (x / 65536 % 16) 0 (x % 65536) true := by
  obtain ⟨ea, eb, ec, ei, ew⟩ := g_of x 2 16 false (by rw [h]; exact has_ori)
  unfold Reads okG putZ
  rw [ea, eb, ec, ei, ew, imm_z16u, cut_16, h, right_ori, right_ori]
  unfold gO at h
  unfold fldA fldB fldC
  simp only [if_pos (show (0 : Int) < 2 by decide), if_pos (show (1 : Int) < 2 by decide), if_neg (show ¬ (2 : Int) < 2 by decide)]
  refine ⟨?_, ?_⟩
  · rw [Bool.eq_iff_iff]; simp; omega
  · intro _; simp
theorem reads_branch (x : Int) (x0 : 0 ≤ x) (x1 : x < 4294967296) (h : 15 ≤ gO x ∧ gO x ≤ 18) : Reads x (x / 1048576 % 16) (x / 65536 % 16) 0 (signZ x 8) (decide (x % 65536 ≤ 255)) := by
  obtain ⟨ea, eb, ec, ei, ew⟩ := g_of x _ _ _ (has_branch _ h)
  unfold Reads okG putZ
  rw [ea, eb, ec, ei, ew, imm_zs, cut_8, right_branch _ _ _ _ _ h, right_branch _ _ _ _ _ h, sign_8]
  unfold fldA fldB fldC gO
  simp only [if_pos (show (0 : Int) < 2 by decide), if_pos (show (1 : Int) < 2 by decide), if_neg (show ¬ (2 : Int) < 2 by decide)]
  refine ⟨?_, ?_⟩
  · rw [Bool.eq_iff_iff]; split <;> simp <;> omega
  · intro _; simp
theorem reads_high (x : Int) (x0 : 0 ≤ x) (x1 : x < 4294967296) (h : gO x = 9) : Reads x (x / 1048576 % 16) (x / 65536 % 16) 0 (x % 65536) true := by
  obtain ⟨ea, eb, ec, ei, ew⟩ := g_of x 1 16 false (by rw [h]; exact has_high)
  unfold Reads okG putZ
  rw [ea, eb, ec, ei, ew, imm_z16u, cut_16, h, right_high, right_high]
  unfold gO at h
  unfold fldA fldB fldC
  simp only [if_pos (show (0 : Int) < 1 by decide), if_neg (show ¬ (1 : Int) < 1 by decide), if_neg (show ¬ (2 : Int) < 1 by decide)]
  refine ⟨?_, ?_⟩
  · rw [Bool.eq_iff_iff]; simp; omega
  · simp; omega
theorem reads_one (x : Int) (x0 : 0 ≤ x) (x1 : x < 4294967296) (h : gO x = 0 ∨ gO x = 22 ∨ gO x = 23) : Reads x (x / 1048576 % 16) (x / 65536 % 16) 0 (x % 65536) true := by
  obtain ⟨ea, eb, ec, ei, ew⟩ := g_of x _ _ _ (has_one _ h)
  unfold Reads okG putZ
  rw [ea, eb, ec, ei, ew, imm_z0, cut_0, right_one _ _ _ _ _ h, right_one _ _ _ _ _ h]
  unfold fldA fldB fldC gO
  simp only [if_pos (show (0 : Int) < 1 by decide), if_neg (show ¬ (1 : Int) < 1 by decide), if_neg (show ¬ (2 : Int) < 1 by decide)]
  refine ⟨?_, ?_⟩
  · rw [Bool.eq_iff_iff]; simp; omega
  · simp; omega
theorem reads_far (x : Int) (x0 : 0 ≤ x) (x1 : x < 4294967296) (h : gO x = 19 ∨ gO x = 20) : Reads x 0 0 0 (signZ x 24) true := by
  obtain ⟨ea, eb, ec, ei, ew⟩ := g_of x _ _ _ (has_far _ h)
  unfold Reads okG putZ
  rw [ea, eb, ec, ei, ew, imm_zs, cut_24, right_far _ _ _ _ _ h, right_far _ _ _ _ _ h, sign_24]
  unfold fldA fldB fldC gO
  simp only [if_neg (show ¬ (0 : Int) < 0 by decide), if_neg (show ¬ (1 : Int) < 0 by decide), if_neg (show ¬ (2 : Int) < 0 by decide)]
  refine ⟨?_, ?_⟩
  · rw [Bool.eq_iff_iff]; split <;> simp <;> omega
  · intro _; simp
theorem reads_no (x : Int) (x0 : 0 ≤ x) (x1 : x < 4294967296) (h : gO x = 21 ∨ gO x = 24 ∨ gO x = 25) : Reads x (x / 1048576 % 16) (x / 65536 % 16) 0 (x % 65536) true := by
  obtain ⟨ea, eb, ec, ei, ew⟩ := g_of x _ _ _ (has_none _ h)
  unfold Reads okG putZ
  rw [ea, eb, ec, ei, ew, imm_z0, cut_0, right_no _ _ _ _ _ h, right_no _ _ _ _ _ h]
  unfold fldA fldB fldC gO
  simp only [if_neg (show ¬ (0 : Int) < 0 by decide), if_neg (show ¬ (1 : Int) < 0 by decide), if_neg (show ¬ (2 : Int) < 0 by decide)]
  refine ⟨?_, ?_⟩
  · rw [Bool.eq_iff_iff]; simp; omega
  · simp; omega
theorem reads_over (x a b c i : Int) (h : 26 ≤ gO x) : Reads x a b c i true := by
  have e : okG x = false := by unfold okG; rw [right_out _ _ _ _ _ (Or.inr h)]; rfl
  refine ⟨?_, ?_⟩
  · rw [e, right_out _ _ _ _ _ (Or.inr h)]; rfl
  · rw [e]; intro h'; cases h'
end Go.Proofs.YtombfnnpdamlgaaDoor
