/- What the document's own answer to 'is it right?' returns: one contract a kind of operation. -/
import Derived.Test.YtombfnnpdamlgaaDoorCode
namespace Go.Proofs.YtombfnnpdamlgaaDoor
open Go.ChangeShapes Go.WideShapes Go.ChangeAt Go.RowKit
set_option linter.unusedVariables false

set_option maxRecDepth 100000 in
theorem rright_three (op a b c imm : Int) (w : World) (h1 : 1 ≤ op) (h2 : op ≤ 7) :
    Calls Tryd.prog 37 #[.agg #[.int .i64 op, .int .i64 a, .int .i64 b, .int .i64 c, .int .i64 imm]] w fun e w' => e = .returned (.bool (rightB op a b c imm)) ∧ Below w.heap.size w w' := by
  rw [right_three _ _ _ _ _ ⟨h1, h2⟩]
  have q0 : (op == 0) = false := by simp; omega
  have q8 : (op == 8) = false := by simp; omega
  have q9 : (op == 9) = false := by simp; omega
  have q10 : (op == 10) = false := by simp; omega
  have q19 : (op == 19) = false := by simp; omega
  have q20 : (op == 20) = false := by simp; omega
  have q21 : (op == 21) = false := by simp; omega
  have q22 : (op == 22) = false := by simp; omega
  have q23 : (op == 23) = false := by simp; omega
  have q24 : (op == 24) = false := by simp; omega
  have q25 : (op == 25) = false := by simp; omega
  go_enter Tryd.func37, Tryd.ntmps37
  go_wp2
  all_goals
    go_ret
    exact ⟨ret_bool (by rw [Bool.eq_iff_iff]; all_goals first | (simp; done) | (simp; omega)), (Below.refl _ _).alloc (Nat.le_refl _) _⟩
set_option maxRecDepth 100000 in
theorem rright_near8 (a b c imm : Int) (w : World)  :
    Calls Tryd.prog 37 #[.agg #[.int .i64 8, .int .i64 a, .int .i64 b, .int .i64 c, .int .i64 imm]] w fun e w' => e = .returned (.bool (rightB 8 a b c imm)) ∧ Below w.heap.size w w' := by
  rw [right_near _ _ _ _ _ (Or.inl rfl)]
  by_cases hc : c = 0
  rotate_left
  · have hcb : (c != 0) = true := by simp [hc]
    have hcc : (c == 0) = false := by simp [hc]
    go_enter Tryd.func37, Tryd.ntmps37
    go_wp2
    all_goals
      go_ret
      exact ⟨ret_bool (by rw [Bool.eq_iff_iff]; all_goals first | (simp; done) | (simp; omega)), (Below.refl _ _).alloc (Nat.le_refl _) _⟩
  subst hc
  go_enter Tryd.func37, Tryd.ntmps37
  go_wp2
  all_goals
    go_ret
    exact ⟨ret_bool (by rw [Bool.eq_iff_iff]; all_goals first | (simp; done) | (simp; omega)), (Below.refl _ _).alloc (Nat.le_refl _) _⟩
set_option maxRecDepth 100000 in
theorem rright_near (op a b c imm : Int) (w : World) (h1 : 11 ≤ op) (h2 : op ≤ 14) :
    Calls Tryd.prog 37 #[.agg #[.int .i64 op, .int .i64 a, .int .i64 b, .int .i64 c, .int .i64 imm]] w fun e w' => e = .returned (.bool (rightB op a b c imm)) ∧ Below w.heap.size w w' := by
  rw [right_near _ _ _ _ _ (Or.inr ⟨h1, h2⟩)]
  have q0 : (op == 0) = false := by simp; omega
  have q8 : (op == 8) = false := by simp; omega
  have q9 : (op == 9) = false := by simp; omega
  have q10 : (op == 10) = false := by simp; omega
  have q19 : (op == 19) = false := by simp; omega
  have q20 : (op == 20) = false := by simp; omega
  have q21 : (op == 21) = false := by simp; omega
  have q22 : (op == 22) = false := by simp; omega
  have q23 : (op == 23) = false := by simp; omega
  have q24 : (op == 24) = false := by simp; omega
  have q25 : (op == 25) = false := by simp; omega
  by_cases hc : c = 0
  rotate_left
  · have hcb : (c != 0) = true := by simp [hc]
    have hcc : (c == 0) = false := by simp [hc]
    go_enter Tryd.func37, Tryd.ntmps37
    go_wp2
    all_goals
      go_ret
      exact ⟨ret_bool (by rw [Bool.eq_iff_iff]; all_goals first | (simp; done) | (simp; omega)), (Below.refl _ _).alloc (Nat.le_refl _) _⟩
  subst hc
  go_enter Tryd.func37, Tryd.ntmps37
  go_wp2
  all_goals
    go_ret
    exact ⟨ret_bool (by rw [Bool.eq_iff_iff]; all_goals first | (simp; done) | (simp; omega)), (Below.refl _ _).alloc (Nat.le_refl _) _⟩
set_option maxRecDepth 100000 in
theorem rright_ori (a b c imm : Int) (w : World)  :
    Calls Tryd.prog 37 #[.agg #[.int .i64 10, .int .i64 a, .int .i64 b, .int .i64 c, .int .i64 imm]] w fun e w' => e = .returned (.bool (rightB 10 a b c imm)) ∧ Below w.heap.size w w' := by
  rw [right_ori]
  by_cases hc : c = 0
  rotate_left
  · have hcb : (c != 0) = true := by simp [hc]
    have hcc : (c == 0) = false := by simp [hc]
    go_enter Tryd.func37, Tryd.ntmps37
    go_wp2
    all_goals
      go_ret
      exact ⟨ret_bool (by rw [Bool.eq_iff_iff]; all_goals first | (simp; done) | (simp; omega)), (Below.refl _ _).alloc (Nat.le_refl _) _⟩
  subst hc
  go_enter Tryd.func37, Tryd.ntmps37
  go_wp2
  all_goals
    go_ret
    exact ⟨ret_bool (by rw [Bool.eq_iff_iff]; all_goals first | (simp; done) | (simp; omega)), (Below.refl _ _).alloc (Nat.le_refl _) _⟩
set_option maxRecDepth 100000 in
theorem rright_branch (op a b c imm : Int) (w : World) (h1 : 15 ≤ op) (h2 : op ≤ 18) :
    Calls Tryd.prog 37 #[.agg #[.int .i64 op, .int .i64 a, .int .i64 b, .int .i64 c, .int .i64 imm]] w fun e w' => e = .returned (.bool (rightB op a b c imm)) ∧ Below w.heap.size w w' := by
  rw [right_branch _ _ _ _ _ ⟨h1, h2⟩]
  have q0 : (op == 0) = false := by simp; omega
  have q8 : (op == 8) = false := by simp; omega
  have q9 : (op == 9) = false := by simp; omega
  have q10 : (op == 10) = false := by simp; omega
  have q19 : (op == 19) = false := by simp; omega
  have q20 : (op == 20) = false := by simp; omega
  have q21 : (op == 21) = false := by simp; omega
  have q22 : (op == 22) = false := by simp; omega
  have q23 : (op == 23) = false := by simp; omega
  have q24 : (op == 24) = false := by simp; omega
  have q25 : (op == 25) = false := by simp; omega
  by_cases hc : c = 0
  rotate_left
  · have hcb : (c != 0) = true := by simp [hc]
    have hcc : (c == 0) = false := by simp [hc]
    go_enter Tryd.func37, Tryd.ntmps37
    go_wp2
    all_goals
      go_ret
      exact ⟨ret_bool (by rw [Bool.eq_iff_iff]; all_goals first | (simp; done) | (simp; omega)), (Below.refl _ _).alloc (Nat.le_refl _) _⟩
  subst hc
  go_enter Tryd.func37, Tryd.ntmps37
  go_wp2
  all_goals
    go_ret
    exact ⟨ret_bool (by rw [Bool.eq_iff_iff]; all_goals first | (simp; done) | (simp; omega)), (Below.refl _ _).alloc (Nat.le_refl _) _⟩
set_option maxRecDepth 100000 in
theorem rright_high (a b c imm : Int) (w : World)  :
    Calls Tryd.prog 37 #[.agg #[.int .i64 9, .int .i64 a, .int .i64 b, .int .i64 c, .int .i64 imm]] w fun e w' => e = .returned (.bool (rightB 9 a b c imm)) ∧ Below w.heap.size w w' := by
  rw [right_high]
  by_cases hc : c = 0
  rotate_left
  · have hcb : (c != 0) = true := by simp [hc]
    have hcc : (c == 0) = false := by simp [hc]
    go_enter Tryd.func37, Tryd.ntmps37
    go_wp2
    all_goals
      go_ret
      exact ⟨ret_bool (by rw [Bool.eq_iff_iff]; all_goals first | (simp; done) | (simp; omega)), (Below.refl _ _).alloc (Nat.le_refl _) _⟩
  subst hc
  by_cases hb : b = 0
  rotate_left
  · have hbb : (b != 0) = true := by simp [hb]
    have hbc : (b == 0) = false := by simp [hb]
    go_enter Tryd.func37, Tryd.ntmps37
    go_wp2
    all_goals
      go_ret
      exact ⟨ret_bool (by rw [Bool.eq_iff_iff]; all_goals first | (simp; done) | (simp; omega)), (Below.refl _ _).alloc (Nat.le_refl _) _⟩
  subst hb
  go_enter Tryd.func37, Tryd.ntmps37
  go_wp2
  all_goals
    go_ret
    exact ⟨ret_bool (by rw [Bool.eq_iff_iff]; all_goals first | (simp; done) | (simp; omega)), (Below.refl _ _).alloc (Nat.le_refl _) _⟩
set_option maxRecDepth 100000 in
theorem rright_one0 (a b c imm : Int) (w : World)  :
    Calls Tryd.prog 37 #[.agg #[.int .i64 0, .int .i64 a, .int .i64 b, .int .i64 c, .int .i64 imm]] w fun e w' => e = .returned (.bool (rightB 0 a b c imm)) ∧ Below w.heap.size w w' := by
  rw [right_one _ _ _ _ _ (by omega)]
  by_cases hc : c = 0
  rotate_left
  · have hcb : (c != 0) = true := by simp [hc]
    have hcc : (c == 0) = false := by simp [hc]
    go_enter Tryd.func37, Tryd.ntmps37
    go_wp2
    all_goals
      go_ret
      exact ⟨ret_bool (by rw [Bool.eq_iff_iff]; all_goals first | (simp; done) | (simp; omega)), (Below.refl _ _).alloc (Nat.le_refl _) _⟩
  subst hc
  by_cases hb : b = 0
  rotate_left
  · have hbb : (b != 0) = true := by simp [hb]
    have hbc : (b == 0) = false := by simp [hb]
    go_enter Tryd.func37, Tryd.ntmps37
    go_wp2
    all_goals
      go_ret
      exact ⟨ret_bool (by rw [Bool.eq_iff_iff]; all_goals first | (simp; done) | (simp; omega)), (Below.refl _ _).alloc (Nat.le_refl _) _⟩
  subst hb
  go_enter Tryd.func37, Tryd.ntmps37
  go_wp2
  all_goals
    go_ret
    exact ⟨ret_bool (by rw [Bool.eq_iff_iff]; all_goals first | (simp; done) | (simp; omega)), (Below.refl _ _).alloc (Nat.le_refl _) _⟩
set_option maxRecDepth 100000 in
theorem rright_one22 (a b c imm : Int) (w : World)  :
    Calls Tryd.prog 37 #[.agg #[.int .i64 22, .int .i64 a, .int .i64 b, .int .i64 c, .int .i64 imm]] w fun e w' => e = .returned (.bool (rightB 22 a b c imm)) ∧ Below w.heap.size w w' := by
  rw [right_one _ _ _ _ _ (by omega)]
  by_cases hc : c = 0
  rotate_left
  · have hcb : (c != 0) = true := by simp [hc]
    have hcc : (c == 0) = false := by simp [hc]
    go_enter Tryd.func37, Tryd.ntmps37
    go_wp2
    all_goals
      go_ret
      exact ⟨ret_bool (by rw [Bool.eq_iff_iff]; all_goals first | (simp; done) | (simp; omega)), (Below.refl _ _).alloc (Nat.le_refl _) _⟩
  subst hc
  by_cases hb : b = 0
  rotate_left
  · have hbb : (b != 0) = true := by simp [hb]
    have hbc : (b == 0) = false := by simp [hb]
    go_enter Tryd.func37, Tryd.ntmps37
    go_wp2
    all_goals
      go_ret
      exact ⟨ret_bool (by rw [Bool.eq_iff_iff]; all_goals first | (simp; done) | (simp; omega)), (Below.refl _ _).alloc (Nat.le_refl _) _⟩
  subst hb
  go_enter Tryd.func37, Tryd.ntmps37
  go_wp2
  all_goals
    go_ret
    exact ⟨ret_bool (by rw [Bool.eq_iff_iff]; all_goals first | (simp; done) | (simp; omega)), (Below.refl _ _).alloc (Nat.le_refl _) _⟩
set_option maxRecDepth 100000 in
theorem rright_one23 (a b c imm : Int) (w : World)  :
    Calls Tryd.prog 37 #[.agg #[.int .i64 23, .int .i64 a, .int .i64 b, .int .i64 c, .int .i64 imm]] w fun e w' => e = .returned (.bool (rightB 23 a b c imm)) ∧ Below w.heap.size w w' := by
  rw [right_one _ _ _ _ _ (by omega)]
  by_cases hc : c = 0
  rotate_left
  · have hcb : (c != 0) = true := by simp [hc]
    have hcc : (c == 0) = false := by simp [hc]
    go_enter Tryd.func37, Tryd.ntmps37
    go_wp2
    all_goals
      go_ret
      exact ⟨ret_bool (by rw [Bool.eq_iff_iff]; all_goals first | (simp; done) | (simp; omega)), (Below.refl _ _).alloc (Nat.le_refl _) _⟩
  subst hc
  by_cases hb : b = 0
  rotate_left
  · have hbb : (b != 0) = true := by simp [hb]
    have hbc : (b == 0) = false := by simp [hb]
    go_enter Tryd.func37, Tryd.ntmps37
    go_wp2
    all_goals
      go_ret
      exact ⟨ret_bool (by rw [Bool.eq_iff_iff]; all_goals first | (simp; done) | (simp; omega)), (Below.refl _ _).alloc (Nat.le_refl _) _⟩
  subst hb
  go_enter Tryd.func37, Tryd.ntmps37
  go_wp2
  all_goals
    go_ret
    exact ⟨ret_bool (by rw [Bool.eq_iff_iff]; all_goals first | (simp; done) | (simp; omega)), (Below.refl _ _).alloc (Nat.le_refl _) _⟩
set_option maxRecDepth 100000 in
theorem rright_far19 (a b c imm : Int) (w : World)  :
    Calls Tryd.prog 37 #[.agg #[.int .i64 19, .int .i64 a, .int .i64 b, .int .i64 c, .int .i64 imm]] w fun e w' => e = .returned (.bool (rightB 19 a b c imm)) ∧ Below w.heap.size w w' := by
  rw [right_far _ _ _ _ _ (by omega)]
  by_cases hc : c = 0
  rotate_left
  · have hcb : (c != 0) = true := by simp [hc]
    have hcc : (c == 0) = false := by simp [hc]
    go_enter Tryd.func37, Tryd.ntmps37
    go_wp2
    all_goals
      go_ret
      exact ⟨ret_bool (by rw [Bool.eq_iff_iff]; all_goals first | (simp; done) | (simp; omega)), (Below.refl _ _).alloc (Nat.le_refl _) _⟩
  subst hc
  by_cases hb : b = 0
  rotate_left
  · have hbb : (b != 0) = true := by simp [hb]
    have hbc : (b == 0) = false := by simp [hb]
    go_enter Tryd.func37, Tryd.ntmps37
    go_wp2
    all_goals
      go_ret
      exact ⟨ret_bool (by rw [Bool.eq_iff_iff]; all_goals first | (simp; done) | (simp; omega)), (Below.refl _ _).alloc (Nat.le_refl _) _⟩
  subst hb
  by_cases ha : a = 0
  rotate_left
  · have hab : (a != 0) = true := by simp [ha]
    have hac : (a == 0) = false := by simp [ha]
    go_enter Tryd.func37, Tryd.ntmps37
    go_wp2
    all_goals
      go_ret
      exact ⟨ret_bool (by rw [Bool.eq_iff_iff]; all_goals first | (simp; done) | (simp; omega)), (Below.refl _ _).alloc (Nat.le_refl _) _⟩
  subst ha
  go_enter Tryd.func37, Tryd.ntmps37
  go_wp2
  all_goals
    go_ret
    exact ⟨ret_bool (by rw [Bool.eq_iff_iff]; all_goals first | (simp; done) | (simp; omega)), (Below.refl _ _).alloc (Nat.le_refl _) _⟩
set_option maxRecDepth 100000 in
theorem rright_far20 (a b c imm : Int) (w : World)  :
    Calls Tryd.prog 37 #[.agg #[.int .i64 20, .int .i64 a, .int .i64 b, .int .i64 c, .int .i64 imm]] w fun e w' => e = .returned (.bool (rightB 20 a b c imm)) ∧ Below w.heap.size w w' := by
  rw [right_far _ _ _ _ _ (by omega)]
  by_cases hc : c = 0
  rotate_left
  · have hcb : (c != 0) = true := by simp [hc]
    have hcc : (c == 0) = false := by simp [hc]
    go_enter Tryd.func37, Tryd.ntmps37
    go_wp2
    all_goals
      go_ret
      exact ⟨ret_bool (by rw [Bool.eq_iff_iff]; all_goals first | (simp; done) | (simp; omega)), (Below.refl _ _).alloc (Nat.le_refl _) _⟩
  subst hc
  by_cases hb : b = 0
  rotate_left
  · have hbb : (b != 0) = true := by simp [hb]
    have hbc : (b == 0) = false := by simp [hb]
    go_enter Tryd.func37, Tryd.ntmps37
    go_wp2
    all_goals
      go_ret
      exact ⟨ret_bool (by rw [Bool.eq_iff_iff]; all_goals first | (simp; done) | (simp; omega)), (Below.refl _ _).alloc (Nat.le_refl _) _⟩
  subst hb
  by_cases ha : a = 0
  rotate_left
  · have hab : (a != 0) = true := by simp [ha]
    have hac : (a == 0) = false := by simp [ha]
    go_enter Tryd.func37, Tryd.ntmps37
    go_wp2
    all_goals
      go_ret
      exact ⟨ret_bool (by rw [Bool.eq_iff_iff]; all_goals first | (simp; done) | (simp; omega)), (Below.refl _ _).alloc (Nat.le_refl _) _⟩
  subst ha
  go_enter Tryd.func37, Tryd.ntmps37
  go_wp2
  all_goals
    go_ret
    exact ⟨ret_bool (by rw [Bool.eq_iff_iff]; all_goals first | (simp; done) | (simp; omega)), (Below.refl _ _).alloc (Nat.le_refl _) _⟩
set_option maxRecDepth 100000 in
theorem rright_no21 (a b c imm : Int) (w : World)  :
    Calls Tryd.prog 37 #[.agg #[.int .i64 21, .int .i64 a, .int .i64 b, .int .i64 c, .int .i64 imm]] w fun e w' => e = .returned (.bool (rightB 21 a b c imm)) ∧ Below w.heap.size w w' := by
  rw [right_no _ _ _ _ _ (by omega)]
  by_cases hc : c = 0
  rotate_left
  · have hcb : (c != 0) = true := by simp [hc]
    have hcc : (c == 0) = false := by simp [hc]
    go_enter Tryd.func37, Tryd.ntmps37
    go_wp2
    all_goals
      go_ret
      exact ⟨ret_bool (by rw [Bool.eq_iff_iff]; all_goals first | (simp; done) | (simp; omega)), (Below.refl _ _).alloc (Nat.le_refl _) _⟩
  subst hc
  by_cases hb : b = 0
  rotate_left
  · have hbb : (b != 0) = true := by simp [hb]
    have hbc : (b == 0) = false := by simp [hb]
    go_enter Tryd.func37, Tryd.ntmps37
    go_wp2
    all_goals
      go_ret
      exact ⟨ret_bool (by rw [Bool.eq_iff_iff]; all_goals first | (simp; done) | (simp; omega)), (Below.refl _ _).alloc (Nat.le_refl _) _⟩
  subst hb
  by_cases ha : a = 0
  rotate_left
  · have hab : (a != 0) = true := by simp [ha]
    have hac : (a == 0) = false := by simp [ha]
    go_enter Tryd.func37, Tryd.ntmps37
    go_wp2
    all_goals
      go_ret
      exact ⟨ret_bool (by rw [Bool.eq_iff_iff]; all_goals first | (simp; done) | (simp; omega)), (Below.refl _ _).alloc (Nat.le_refl _) _⟩
  subst ha
  go_enter Tryd.func37, Tryd.ntmps37
  go_wp2
  all_goals
    go_ret
    exact ⟨ret_bool (by rw [Bool.eq_iff_iff]; all_goals first | (simp; done) | (simp; omega)), (Below.refl _ _).alloc (Nat.le_refl _) _⟩
set_option maxRecDepth 100000 in
theorem rright_no24 (a b c imm : Int) (w : World)  :
    Calls Tryd.prog 37 #[.agg #[.int .i64 24, .int .i64 a, .int .i64 b, .int .i64 c, .int .i64 imm]] w fun e w' => e = .returned (.bool (rightB 24 a b c imm)) ∧ Below w.heap.size w w' := by
  rw [right_no _ _ _ _ _ (by omega)]
  by_cases hc : c = 0
  rotate_left
  · have hcb : (c != 0) = true := by simp [hc]
    have hcc : (c == 0) = false := by simp [hc]
    go_enter Tryd.func37, Tryd.ntmps37
    go_wp2
    all_goals
      go_ret
      exact ⟨ret_bool (by rw [Bool.eq_iff_iff]; all_goals first | (simp; done) | (simp; omega)), (Below.refl _ _).alloc (Nat.le_refl _) _⟩
  subst hc
  by_cases hb : b = 0
  rotate_left
  · have hbb : (b != 0) = true := by simp [hb]
    have hbc : (b == 0) = false := by simp [hb]
    go_enter Tryd.func37, Tryd.ntmps37
    go_wp2
    all_goals
      go_ret
      exact ⟨ret_bool (by rw [Bool.eq_iff_iff]; all_goals first | (simp; done) | (simp; omega)), (Below.refl _ _).alloc (Nat.le_refl _) _⟩
  subst hb
  by_cases ha : a = 0
  rotate_left
  · have hab : (a != 0) = true := by simp [ha]
    have hac : (a == 0) = false := by simp [ha]
    go_enter Tryd.func37, Tryd.ntmps37
    go_wp2
    all_goals
      go_ret
      exact ⟨ret_bool (by rw [Bool.eq_iff_iff]; all_goals first | (simp; done) | (simp; omega)), (Below.refl _ _).alloc (Nat.le_refl _) _⟩
  subst ha
  go_enter Tryd.func37, Tryd.ntmps37
  go_wp2
  all_goals
    go_ret
    exact ⟨ret_bool (by rw [Bool.eq_iff_iff]; all_goals first | (simp; done) | (simp; omega)), (Below.refl _ _).alloc (Nat.le_refl _) _⟩
set_option maxRecDepth 100000 in
theorem rright_no25 (a b c imm : Int) (w : World)  :
    Calls Tryd.prog 37 #[.agg #[.int .i64 25, .int .i64 a, .int .i64 b, .int .i64 c, .int .i64 imm]] w fun e w' => e = .returned (.bool (rightB 25 a b c imm)) ∧ Below w.heap.size w w' := by
  rw [right_no _ _ _ _ _ (by omega)]
  by_cases hc : c = 0
  rotate_left
  · have hcb : (c != 0) = true := by simp [hc]
    have hcc : (c == 0) = false := by simp [hc]
    go_enter Tryd.func37, Tryd.ntmps37
    go_wp2
    all_goals
      go_ret
      exact ⟨ret_bool (by rw [Bool.eq_iff_iff]; all_goals first | (simp; done) | (simp; omega)), (Below.refl _ _).alloc (Nat.le_refl _) _⟩
  subst hc
  by_cases hb : b = 0
  rotate_left
  · have hbb : (b != 0) = true := by simp [hb]
    have hbc : (b == 0) = false := by simp [hb]
    go_enter Tryd.func37, Tryd.ntmps37
    go_wp2
    all_goals
      go_ret
      exact ⟨ret_bool (by rw [Bool.eq_iff_iff]; all_goals first | (simp; done) | (simp; omega)), (Below.refl _ _).alloc (Nat.le_refl _) _⟩
  subst hb
  by_cases ha : a = 0
  rotate_left
  · have hab : (a != 0) = true := by simp [ha]
    have hac : (a == 0) = false := by simp [ha]
    go_enter Tryd.func37, Tryd.ntmps37
    go_wp2
    all_goals
      go_ret
      exact ⟨ret_bool (by rw [Bool.eq_iff_iff]; all_goals first | (simp; done) | (simp; omega)), (Below.refl _ _).alloc (Nat.le_refl _) _⟩
  subst ha
  go_enter Tryd.func37, Tryd.ntmps37
  go_wp2
  all_goals
    go_ret
    exact ⟨ret_bool (by rw [Bool.eq_iff_iff]; all_goals first | (simp; done) | (simp; omega)), (Below.refl _ _).alloc (Nat.le_refl _) _⟩
set_option maxRecDepth 100000 in
theorem rright_low (op a b c imm : Int) (w : World) (h1 : op < 0) :
    Calls Tryd.prog 37 #[.agg #[.int .i64 op, .int .i64 a, .int .i64 b, .int .i64 c, .int .i64 imm]] w fun e w' => e = .returned (.bool (rightB op a b c imm)) ∧ Below w.heap.size w w' := by
  rw [right_out _ _ _ _ _ (Or.inl h1)]
  have q0 : (op == 0) = false := by simp; omega
  have q8 : (op == 8) = false := by simp; omega
  have q9 : (op == 9) = false := by simp; omega
  have q10 : (op == 10) = false := by simp; omega
  have q19 : (op == 19) = false := by simp; omega
  have q20 : (op == 20) = false := by simp; omega
  have q21 : (op == 21) = false := by simp; omega
  have q22 : (op == 22) = false := by simp; omega
  have q23 : (op == 23) = false := by simp; omega
  have q24 : (op == 24) = false := by simp; omega
  have q25 : (op == 25) = false := by simp; omega
  by_cases hc : c = 0
  rotate_left
  · have hcb : (c != 0) = true := by simp [hc]
    have hcc : (c == 0) = false := by simp [hc]
    go_enter Tryd.func37, Tryd.ntmps37
    go_wp2
    all_goals
      go_ret
      exact ⟨ret_bool (by rw [Bool.eq_iff_iff]; all_goals first | (simp; done) | (simp; omega)), (Below.refl _ _).alloc (Nat.le_refl _) _⟩
  subst hc
  by_cases hb : b = 0
  rotate_left
  · have hbb : (b != 0) = true := by simp [hb]
    have hbc : (b == 0) = false := by simp [hb]
    go_enter Tryd.func37, Tryd.ntmps37
    go_wp2
    all_goals
      go_ret
      exact ⟨ret_bool (by rw [Bool.eq_iff_iff]; all_goals first | (simp; done) | (simp; omega)), (Below.refl _ _).alloc (Nat.le_refl _) _⟩
  subst hb
  go_enter Tryd.func37, Tryd.ntmps37
  go_wp2
  all_goals
    go_ret
    exact ⟨ret_bool (by rw [Bool.eq_iff_iff]; all_goals first | (simp; done) | (simp; omega)), (Below.refl _ _).alloc (Nat.le_refl _) _⟩
set_option maxRecDepth 100000 in
theorem rright_high26 (op a b c imm : Int) (w : World) (h1 : 26 ≤ op) :
    Calls Tryd.prog 37 #[.agg #[.int .i64 op, .int .i64 a, .int .i64 b, .int .i64 c, .int .i64 imm]] w fun e w' => e = .returned (.bool (rightB op a b c imm)) ∧ Below w.heap.size w w' := by
  rw [right_out _ _ _ _ _ (Or.inr h1)]
  have q0 : (op == 0) = false := by simp; omega
  have q8 : (op == 8) = false := by simp; omega
  have q9 : (op == 9) = false := by simp; omega
  have q10 : (op == 10) = false := by simp; omega
  have q19 : (op == 19) = false := by simp; omega
  have q20 : (op == 20) = false := by simp; omega
  have q21 : (op == 21) = false := by simp; omega
  have q22 : (op == 22) = false := by simp; omega
  have q23 : (op == 23) = false := by simp; omega
  have q24 : (op == 24) = false := by simp; omega
  have q25 : (op == 25) = false := by simp; omega
  by_cases hc : c = 0
  rotate_left
  · have hcb : (c != 0) = true := by simp [hc]
    have hcc : (c == 0) = false := by simp [hc]
    go_enter Tryd.func37, Tryd.ntmps37
    go_wp2
    all_goals
      go_ret
      exact ⟨ret_bool (by rw [Bool.eq_iff_iff]; all_goals first | (simp; done) | (simp; omega)), (Below.refl _ _).alloc (Nat.le_refl _) _⟩
  subst hc
  by_cases hb : b = 0
  rotate_left
  · have hbb : (b != 0) = true := by simp [hb]
    have hbc : (b == 0) = false := by simp [hb]
    go_enter Tryd.func37, Tryd.ntmps37
    go_wp2
    all_goals
      go_ret
      exact ⟨ret_bool (by rw [Bool.eq_iff_iff]; all_goals first | (simp; done) | (simp; omega)), (Below.refl _ _).alloc (Nat.le_refl _) _⟩
  subst hb
  go_enter Tryd.func37, Tryd.ntmps37
  go_wp2
  all_goals
    go_ret
    exact ⟨ret_bool (by rw [Bool.eq_iff_iff]; all_goals first | (simp; done) | (simp; omega)), (Below.refl _ _).alloc (Nat.le_refl _) _⟩

theorem rright_any (op a b c imm : Int) (w : World) :
    Calls Tryd.prog 37 #[.agg #[.int .i64 op, .int .i64 a, .int .i64 b, .int .i64 c, .int .i64 imm]] w fun e w' => e = .returned (.bool (rightB op a b c imm)) ∧ Below w.heap.size w w' := by
  rcases (by omega : op < 0 ∨ op = 0 ∨ (1 ≤ op ∧ op ≤ 7) ∨ op = 8 ∨ op = 9 ∨ op = 10 ∨ (11 ≤ op ∧ op ≤ 14) ∨ (15 ≤ op ∧ op ≤ 18) ∨ op = 19 ∨ op = 20 ∨ op = 21 ∨ op = 22 ∨ op = 23 ∨ op = 24 ∨ op = 25 ∨ 26 ≤ op) with h | rfl | ⟨h, h'⟩ | rfl | rfl | rfl | ⟨h, h'⟩ | ⟨h, h'⟩ | rfl | rfl | rfl | rfl | rfl | rfl | rfl | h
  · exact rright_low op a b c imm w h
  · exact rright_one0 a b c imm w
  · exact rright_three op a b c imm w h h'
  · exact rright_near8 a b c imm w
  · exact rright_high a b c imm w
  · exact rright_ori a b c imm w
  · exact rright_near op a b c imm w h h'
  · exact rright_branch op a b c imm w h h'
  · exact rright_far19 a b c imm w
  · exact rright_far20 a b c imm w
  · exact rright_no21 a b c imm w
  · exact rright_one22 a b c imm w
  · exact rright_one23 a b c imm w
  · exact rright_no24 a b c imm w
  · exact rright_no25 a b c imm w
  · exact rright_high26 op a b c imm w h
end Go.Proofs.YtombfnnpdamlgaaDoor
