/- The plain arithmetic of layer 2: what is written is read as it was. -/
import Derived.Test.YteakbpcmafdikaaGreatDoorNmCode
namespace Go.Proofs.YteakbpcmafdikaaGreatDoor
open Go.RowKit
set_option linter.unusedVariables false

theorem put_fields (op a b c imm : Int) (h : rightB op a b c imm = true) :
    (0 ≤ putZ op a b c imm ∧ putZ op a b c imm < 4294967296) ∧ gO (putZ op a b c imm) = op ∧ gA (putZ op a b c imm) = a ∧ gB (putZ op a b c imm) = b ∧ gC (putZ op a b c imm) = c ∧ gI (putZ op a b c imm) = imm := by
  have hop : 0 ≤ op ∧ op < 26 := by simp [rightB] at h; omega
  obtain ⟨a0, a1, b0, b1, c0, c1⟩ := right_regs _ _ _ _ _ h
  obtain ⟨o0, o1⟩ := hop
  have hO : gO (putZ op a b c imm) = op → (0 ≤ putZ op a b c imm ∧ putZ op a b c imm < 4294967296) := by unfold gO; omega
  have fin : ∀ (r wd : Int) (s : Bool), Has op r wd s → gO (putZ op a b c imm) = op → fldA (putZ op a b c imm) r = a → fldB (putZ op a b c imm) r = b → fldC (putZ op a b c imm) r = c → immZ (putZ op a b c imm) wd s = imm →
      (0 ≤ putZ op a b c imm ∧ putZ op a b c imm < 4294967296) ∧ gO (putZ op a b c imm) = op ∧ gA (putZ op a b c imm) = a ∧ gB (putZ op a b c imm) = b ∧ gC (putZ op a b c imm) = c ∧ gI (putZ op a b c imm) = imm := by
    intro r wd s hh h1 h2 h3 h4 h5
    obtain ⟨ea, eb, ec, ei, _⟩ := g_of (putZ op a b c imm) r wd s (by rw [h1]; exact hh)
    exact ⟨hO h1, h1, ea.trans h2, eb.trans h3, ec.trans h4, ei.trans h5⟩
  rcases (by omega : (1 ≤ op ∧ op ≤ 7) ∨ (op = 8 ∨ 11 ≤ op ∧ op ≤ 14) ∨ op = 10 ∨ (15 ≤ op ∧ op ≤ 18) ∨ op = 9 ∨ (op = 0 ∨ op = 22 ∨ op = 23) ∨ (op = 19 ∨ op = 20) ∨ (op = 21 ∨ op = 24 ∨ op = 25)) with g | g | g | g | g | g | g | g
  · rw [right_three _ _ _ _ _ g] at h
    simp only [decide_eq_true_eq] at h
    have e : putZ op a b c imm = op * 16777216 + a * 1048576 + b * 65536 + c := by unfold putZ; rw [(has_three op g).2.1, cut_0]; omega
    refine fin 3 0 false (has_three op g) ?_ ?_ ?_ ?_ ?_
    all_goals rw [e]
    all_goals simp only [gO, fldA, fldB, fldC, imm_z0, if_pos (show (0 : Int) < 3 by decide), if_pos (show (1 : Int) < 3 by decide), if_pos (show (2 : Int) < 3 by decide)]
    all_goals omega
  · rw [right_near _ _ _ _ _ g] at h
    simp only [decide_eq_true_eq] at h
    have e : putZ op a b c imm = op * 16777216 + a * 1048576 + b * 65536 + c + imm % 65536 := by unfold putZ; rw [(has_near op g).2.1, cut_16]
    refine fin 2 16 true (has_near op g) ?_ ?_ ?_ ?_ ?_
    all_goals rw [e]
    all_goals simp only [gO, fldA, fldB, fldC, imm_zs, sign_16, if_pos (show (0 : Int) < 2 by decide), if_pos (show (1 : Int) < 2 by decide), if_neg (show ¬ (2 : Int) < 2 by decide)]
    all_goals first | omega | (split <;> omega)
  · subst g
    rw [right_ori] at h
    simp only [decide_eq_true_eq] at h
    have e : putZ 10 a b c imm = 10 * 16777216 + a * 1048576 + b * 65536 + c + imm % 65536 := by unfold putZ; rw [has_ori.2.1, cut_16]
    refine fin 2 16 false has_ori ?_ ?_ ?_ ?_ ?_
    all_goals rw [e]
    all_goals simp only [gO, fldA, fldB, fldC, imm_z16u, if_pos (show (0 : Int) < 2 by decide), if_pos (show (1 : Int) < 2 by decide), if_neg (show ¬ (2 : Int) < 2 by decide)]
    all_goals omega
  · rw [right_branch _ _ _ _ _ g] at h
    simp only [decide_eq_true_eq] at h
    have e : putZ op a b c imm = op * 16777216 + a * 1048576 + b * 65536 + c + imm % 256 := by unfold putZ; rw [(has_branch op g).2.1, cut_8]
    refine fin 2 8 true (has_branch op g) ?_ ?_ ?_ ?_ ?_
    all_goals rw [e]
    all_goals simp only [gO, fldA, fldB, fldC, imm_zs, sign_8, if_pos (show (0 : Int) < 2 by decide), if_pos (show (1 : Int) < 2 by decide), if_neg (show ¬ (2 : Int) < 2 by decide)]
    all_goals first | omega | (split <;> omega)
  · subst g
    rw [right_high] at h
    simp only [decide_eq_true_eq] at h
    have e : putZ 9 a b c imm = 9 * 16777216 + a * 1048576 + b * 65536 + c + imm % 65536 := by unfold putZ; rw [has_high.2.1, cut_16]
    refine fin 1 16 false has_high ?_ ?_ ?_ ?_ ?_
    all_goals rw [e]
    all_goals simp only [gO, fldA, fldB, fldC, imm_z16u, if_pos (show (0 : Int) < 1 by decide), if_neg (show ¬ (1 : Int) < 1 by decide), if_neg (show ¬ (2 : Int) < 1 by decide)]
    all_goals omega
  · rw [right_one _ _ _ _ _ g] at h
    simp only [decide_eq_true_eq] at h
    have e : putZ op a b c imm = op * 16777216 + a * 1048576 + b * 65536 + c := by unfold putZ; rw [(has_one op g).2.1, cut_0]; omega
    refine fin 1 0 false (has_one op g) ?_ ?_ ?_ ?_ ?_
    all_goals rw [e]
    all_goals simp only [gO, fldA, fldB, fldC, imm_z0, if_pos (show (0 : Int) < 1 by decide), if_neg (show ¬ (1 : Int) < 1 by decide), if_neg (show ¬ (2 : Int) < 1 by decide)]
    all_goals omega
  · rw [right_far _ _ _ _ _ g] at h
    simp only [decide_eq_true_eq] at h
    have e : putZ op a b c imm = op * 16777216 + a * 1048576 + b * 65536 + c + imm % 16777216 := by unfold putZ; rw [(has_far op g).2.1, cut_24]
    refine fin 0 24 true (has_far op g) ?_ ?_ ?_ ?_ ?_
    all_goals rw [e]
    all_goals simp only [gO, fldA, fldB, fldC, imm_zs, sign_24, if_neg (show ¬ (0 : Int) < 0 by decide), if_neg (show ¬ (1 : Int) < 0 by decide), if_neg (show ¬ (2 : Int) < 0 by decide)]
    all_goals first | omega | (split <;> omega)
  · rw [right_no _ _ _ _ _ g] at h
    simp only [decide_eq_true_eq] at h
    have e : putZ op a b c imm = op * 16777216 + a * 1048576 + b * 65536 + c := by unfold putZ; rw [(has_none op g).2.1, cut_0]; omega
    refine fin 0 0 false (has_none op g) ?_ ?_ ?_ ?_ ?_
    all_goals rw [e]
    all_goals simp only [gO, fldA, fldB, fldC, imm_z0, if_neg (show ¬ (0 : Int) < 0 by decide), if_neg (show ¬ (1 : Int) < 0 by decide), if_neg (show ¬ (2 : Int) < 0 by decide)]
    all_goals omega

/-- What is written is that of an instruction, which is read as it was. -/
theorem put_ok (op a b c imm : Int) (h : rightB op a b c imm = true) : okG (putZ op a b c imm) = true := by
  obtain ⟨_, e0, e1, e2, e3, e4⟩ := put_fields op a b c imm h
  unfold okG; rw [e0, e1, e2, e3, e4, h]; simp
/-- What is read is written as it stood. -/
theorem ok_put (x : Int) (h : okG x = true) : rightB (gO x) (gA x) (gB x) (gC x) (gI x) = true ∧ putZ (gO x) (gA x) (gB x) (gC x) (gI x) = x := by
  unfold okG at h; simpa using h
end Go.Proofs.YteakbpcmafdikaaGreatDoor
