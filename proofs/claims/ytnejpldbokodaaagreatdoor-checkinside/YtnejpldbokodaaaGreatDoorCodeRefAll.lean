/- What the document's own answer to 'is it right?' returns: one contract a kind of operation. What the document's own answers to 'its word' and 'its instruction' return: one contract a function. The document's own reading and the program's beside it; '==' on instructions; 'awake' returns true. -/
import Derived.Test.YtnejpldbokodaaaGreatDoorCode
import Derived.Test.YtnejpldbokodaaaGreatDoorCodeWords
import Derived.ChangeKeysEq
namespace Go.Proofs.YtnejpldbokodaaaGreatDoor
open Go.ChangeShapes Go.WideShapes Go.ChangeAt Go.RowKit
set_option linter.unusedVariables false

set_option maxRecDepth 100000 in
theorem rright_three (op a b c imm : Int) (w : World) (h1 : 1 ≤ op) (h2 : op ≤ 7) :
    Calls Tryz.prog 29 #[.agg #[.int .i64 op, .int .i64 a, .int .i64 b, .int .i64 c, .int .i64 imm]] w fun e w' => e = .returned (.bool (rightB op a b c imm)) ∧ Below w.heap.size w w' := by
  rw [right_three _ _ _ _ _ ⟨h1, h2⟩]
  have q0 : (op == 0) = false := by simp; omega
  have q8 : (op == 8) = false := by simp; omega
  have q9 : (op == 9) = false := by simp; omega
  have q10 : (op == 10) = false := by simp; omega
  have q19 : (op == 19) = false := by simp; omega
  have q20 : (op == 20) = false := by simp; omega
  have q21 : (op == 21) = false := by simp; omega
  have q22 : (op == 22) = false := by simp; omega
  have q23 : (op == 23) = false := by simp; omega
  have q24 : (op == 24) = false := by simp; omega
  have q25 : (op == 25) = false := by simp; omega
  go_enter Tryz.func29, Tryz.ntmps29
  go_wp2
  all_goals
    go_ret
    exact ⟨ret_bool (by rw [Bool.eq_iff_iff]; all_goals first | (simp; done) | (simp; omega)), (Below.refl _ _).alloc (Nat.le_refl _) _⟩
set_option maxRecDepth 100000 in
theorem rright_near8 (a b c imm : Int) (w : World)  :
    Calls Tryz.prog 29 #[.agg #[.int .i64 8, .int .i64 a, .int .i64 b, .int .i64 c, .int .i64 imm]] w fun e w' => e = .returned (.bool (rightB 8 a b c imm)) ∧ Below w.heap.size w w' := by
  rw [right_near _ _ _ _ _ (Or.inl rfl)]
  by_cases hc : c = 0
  rotate_left
  · have hcb : (c != 0) = true := by simp [hc]
    have hcc : (c == 0) = false := by simp [hc]
    go_enter Tryz.func29, Tryz.ntmps29
    go_wp2
    all_goals
      go_ret
      exact ⟨ret_bool (by rw [Bool.eq_iff_iff]; all_goals first | (simp; done) | (simp; omega)), (Below.refl _ _).alloc (Nat.le_refl _) _⟩
  subst hc
  go_enter Tryz.func29, Tryz.ntmps29
  go_wp2
  all_goals
    go_ret
    exact ⟨ret_bool (by rw [Bool.eq_iff_iff]; all_goals first | (simp; done) | (simp; omega)), (Below.refl _ _).alloc (Nat.le_refl _) _⟩
set_option maxRecDepth 100000 in
theorem rright_near (op a b c imm : Int) (w : World) (h1 : 11 ≤ op) (h2 : op ≤ 14) :
    Calls Tryz.prog 29 #[.agg #[.int .i64 op, .int .i64 a, .int .i64 b, .int .i64 c, .int .i64 imm]] w fun e w' => e = .returned (.bool (rightB op a b c imm)) ∧ Below w.heap.size w w' := by
  rw [right_near _ _ _ _ _ (Or.inr ⟨h1, h2⟩)]
  have q0 : (op == 0) = false := by simp; omega
  have q8 : (op == 8) = false := by simp; omega
  have q9 : (op == 9) = false := by simp; omega
  have q10 : (op == 10) = false := by simp; omega
  have q19 : (op == 19) = false := by simp; omega
  have q20 : (op == 20) = false := by simp; omega
  have q21 : (op == 21) = false := by simp; omega
  have q22 : (op == 22) = false := by simp; omega
  have q23 : (op == 23) = false := by simp; omega
  have q24 : (op == 24) = false := by simp; omega
  have q25 : (op == 25) = false := by simp; omega
  by_cases hc : c = 0
  rotate_left
  · have hcb : (c != 0) = true := by simp [hc]
    have hcc : (c == 0) = false := by simp [hc]
    go_enter Tryz.func29, Tryz.ntmps29
    go_wp2
    all_goals
      go_ret
      exact ⟨ret_bool (by rw [Bool.eq_iff_iff]; all_goals first | (simp; done) | (simp; omega)), (Below.refl _ _).alloc (Nat.le_refl _) _⟩
  subst hc
  go_enter Tryz.func29, Tryz.ntmps29
  go_wp2
  all_goals
    go_ret
    exact ⟨ret_bool (by rw [Bool.eq_iff_iff]; all_goals first | (simp; done) | (simp; omega)), (Below.refl _ _).alloc (Nat.le_refl _) _⟩
set_option maxRecDepth 100000 in
theorem rright_ori (a b c imm : Int) (w : World)  :
    Calls Tryz.prog 29 #[.agg #[.int .i64 10, .int .i64 a, .int .i64 b, .int .i64 c, .int .i64 imm]] w fun e w' => e = .returned (.bool (rightB 10 a b c imm)) ∧ Below w.heap.size w w' := by
  rw [right_ori]
  by_cases hc : c = 0
  rotate_left
  · have hcb : (c != 0) = true := by simp [hc]
    have hcc : (c == 0) = false := by simp [hc]
    go_enter Tryz.func29, Tryz.ntmps29
    go_wp2
    all_goals
      go_ret
      exact ⟨ret_bool (by rw [Bool.eq_iff_iff]; all_goals first | (simp; done) | (simp; omega)), (Below.refl _ _).alloc (Nat.le_refl _) _⟩
  subst hc
  go_enter Tryz.func29, Tryz.ntmps29
  go_wp2
  all_goals
    go_ret
    exact ⟨ret_bool (by rw [Bool.eq_iff_iff]; all_goals first | (simp; done) | (simp; omega)), (Below.refl _ _).alloc (Nat.le_refl _) _⟩
set_option maxRecDepth 100000 in
theorem rright_branch (op a b c imm : Int) (w : World) (h1 : 15 ≤ op) (h2 : op ≤ 18) :
    Calls Tryz.prog 29 #[.agg #[.int .i64 op, .int .i64 a, .int .i64 b, .int .i64 c, .int .i64 imm]] w fun e w' => e = .returned (.bool (rightB op a b c imm)) ∧ Below w.heap.size w w' := by
  rw [right_branch _ _ _ _ _ ⟨h1, h2⟩]
  have q0 : (op == 0) = false := by simp; omega
  have q8 : (op == 8) = false := by simp; omega
  have q9 : (op == 9) = false := by simp; omega
  have q10 : (op == 10) = false := by simp; omega
  have q19 : (op == 19) = false := by simp; omega
  have q20 : (op == 20) = false := by simp; omega
  have q21 : (op == 21) = false := by simp; omega
  have q22 : (op == 22) = false := by simp; omega
  have q23 : (op == 23) = false := by simp; omega
  have q24 : (op == 24) = false := by simp; omega
  have q25 : (op == 25) = false := by simp; omega
  by_cases hc : c = 0
  rotate_left
  · have hcb : (c != 0) = true := by simp [hc]
    have hcc : (c == 0) = false := by simp [hc]
    go_enter Tryz.func29, Tryz.ntmps29
    go_wp2
    all_goals
      go_ret
      exact ⟨ret_bool (by rw [Bool.eq_iff_iff]; all_goals first | (simp; done) | (simp; omega)), (Below.refl _ _).alloc (Nat.le_refl _) _⟩
  subst hc
  go_enter Tryz.func29, Tryz.ntmps29
  go_wp2
  all_goals
    go_ret
    exact ⟨ret_bool (by rw [Bool.eq_iff_iff]; all_goals first | (simp; done) | (simp; omega)), (Below.refl _ _).alloc (Nat.le_refl _) _⟩
set_option maxRecDepth 100000 in
theorem rright_high (a b c imm : Int) (w : World)  :
    Calls Tryz.prog 29 #[.agg #[.int .i64 9, .int .i64 a, .int .i64 b, .int .i64 c, .int .i64 imm]] w fun e w' => e = .returned (.bool (rightB 9 a b c imm)) ∧ Below w.heap.size w w' := by
  rw [right_high]
  by_cases hc : c = 0
  rotate_left
  · have hcb : (c != 0) = true := by simp [hc]
    have hcc : (c == 0) = false := by simp [hc]
    go_enter Tryz.func29, Tryz.ntmps29
    go_wp2
    all_goals
      go_ret
      exact ⟨ret_bool (by rw [Bool.eq_iff_iff]; all_goals first | (simp; done) | (simp; omega)), (Below.refl _ _).alloc (Nat.le_refl _) _⟩
  subst hc
  by_cases hb : b = 0
  rotate_left
  · have hbb : (b != 0) = true := by simp [hb]
    have hbc : (b == 0) = false := by simp [hb]
    go_enter Tryz.func29, Tryz.ntmps29
    go_wp2
    all_goals
      go_ret
      exact ⟨ret_bool (by rw [Bool.eq_iff_iff]; all_goals first | (simp; done) | (simp; omega)), (Below.refl _ _).alloc (Nat.le_refl _) _⟩
  subst hb
  go_enter Tryz.func29, Tryz.ntmps29
  go_wp2
  all_goals
    go_ret
    exact ⟨ret_bool (by rw [Bool.eq_iff_iff]; all_goals first | (simp; done) | (simp; omega)), (Below.refl _ _).alloc (Nat.le_refl _) _⟩
set_option maxRecDepth 100000 in
theorem rright_one0 (a b c imm : Int) (w : World)  :
    Calls Tryz.prog 29 #[.agg #[.int .i64 0, .int .i64 a, .int .i64 b, .int .i64 c, .int .i64 imm]] w fun e w' => e = .returned (.bool (rightB 0 a b c imm)) ∧ Below w.heap.size w w' := by
  rw [right_one _ _ _ _ _ (by omega)]
  by_cases hc : c = 0
  rotate_left
  · have hcb : (c != 0) = true := by simp [hc]
    have hcc : (c == 0) = false := by simp [hc]
    go_enter Tryz.func29, Tryz.ntmps29
    go_wp2
    all_goals
      go_ret
      exact ⟨ret_bool (by rw [Bool.eq_iff_iff]; all_goals first | (simp; done) | (simp; omega)), (Below.refl _ _).alloc (Nat.le_refl _) _⟩
  subst hc
  by_cases hb : b = 0
  rotate_left
  · have hbb : (b != 0) = true := by simp [hb]
    have hbc : (b == 0) = false := by simp [hb]
    go_enter Tryz.func29, Tryz.ntmps29
    go_wp2
    all_goals
      go_ret
      exact ⟨ret_bool (by rw [Bool.eq_iff_iff]; all_goals first | (simp; done) | (simp; omega)), (Below.refl _ _).alloc (Nat.le_refl _) _⟩
  subst hb
  go_enter Tryz.func29, Tryz.ntmps29
  go_wp2
  all_goals
    go_ret
    exact ⟨ret_bool (by rw [Bool.eq_iff_iff]; all_goals first | (simp; done) | (simp; omega)), (Below.refl _ _).alloc (Nat.le_refl _) _⟩
set_option maxRecDepth 100000 in
theorem rright_one22 (a b c imm : Int) (w : World)  :
    Calls Tryz.prog 29 #[.agg #[.int .i64 22, .int .i64 a, .int .i64 b, .int .i64 c, .int .i64 imm]] w fun e w' => e = .returned (.bool (rightB 22 a b c imm)) ∧ Below w.heap.size w w' := by
  rw [right_one _ _ _ _ _ (by omega)]
  by_cases hc : c = 0
  rotate_left
  · have hcb : (c != 0) = true := by simp [hc]
    have hcc : (c == 0) = false := by simp [hc]
    go_enter Tryz.func29, Tryz.ntmps29
    go_wp2
    all_goals
      go_ret
      exact ⟨ret_bool (by rw [Bool.eq_iff_iff]; all_goals first | (simp; done) | (simp; omega)), (Below.refl _ _).alloc (Nat.le_refl _) _⟩
  subst hc
  by_cases hb : b = 0
  rotate_left
  · have hbb : (b != 0) = true := by simp [hb]
    have hbc : (b == 0) = false := by simp [hb]
    go_enter Tryz.func29, Tryz.ntmps29
    go_wp2
    all_goals
      go_ret
      exact ⟨ret_bool (by rw [Bool.eq_iff_iff]; all_goals first | (simp; done) | (simp; omega)), (Below.refl _ _).alloc (Nat.le_refl _) _⟩
  subst hb
  go_enter Tryz.func29, Tryz.ntmps29
  go_wp2
  all_goals
    go_ret
    exact ⟨ret_bool (by rw [Bool.eq_iff_iff]; all_goals first | (simp; done) | (simp; omega)), (Below.refl _ _).alloc (Nat.le_refl _) _⟩
set_option maxRecDepth 100000 in
theorem rright_one23 (a b c imm : Int) (w : World)  :
    Calls Tryz.prog 29 #[.agg #[.int .i64 23, .int .i64 a, .int .i64 b, .int .i64 c, .int .i64 imm]] w fun e w' => e = .returned (.bool (rightB 23 a b c imm)) ∧ Below w.heap.size w w' := by
  rw [right_one _ _ _ _ _ (by omega)]
  by_cases hc : c = 0
  rotate_left
  · have hcb : (c != 0) = true := by simp [hc]
    have hcc : (c == 0) = false := by simp [hc]
    go_enter Tryz.func29, Tryz.ntmps29
    go_wp2
    all_goals
      go_ret
      exact ⟨ret_bool (by rw [Bool.eq_iff_iff]; all_goals first | (simp; done) | (simp; omega)), (Below.refl _ _).alloc (Nat.le_refl _) _⟩
  subst hc
  by_cases hb : b = 0
  rotate_left
  · have hbb : (b != 0) = true := by simp [hb]
    have hbc : (b == 0) = false := by simp [hb]
    go_enter Tryz.func29, Tryz.ntmps29
    go_wp2
    all_goals
      go_ret
      exact ⟨ret_bool (by rw [Bool.eq_iff_iff]; all_goals first | (simp; done) | (simp; omega)), (Below.refl _ _).alloc (Nat.le_refl _) _⟩
  subst hb
  go_enter Tryz.func29, Tryz.ntmps29
  go_wp2
  all_goals
    go_ret
    exact ⟨ret_bool (by rw [Bool.eq_iff_iff]; all_goals first | (simp; done) | (simp; omega)), (Below.refl _ _).alloc (Nat.le_refl _) _⟩
set_option maxRecDepth 100000 in
theorem rright_far19 (a b c imm : Int) (w : World)  :
    Calls Tryz.prog 29 #[.agg #[.int .i64 19, .int .i64 a, .int .i64 b, .int .i64 c, .int .i64 imm]] w fun e w' => e = .returned (.bool (rightB 19 a b c imm)) ∧ Below w.heap.size w w' := by
  rw [right_far _ _ _ _ _ (by omega)]
  by_cases hc : c = 0
  rotate_left
  · have hcb : (c != 0) = true := by simp [hc]
    have hcc : (c == 0) = false := by simp [hc]
    go_enter Tryz.func29, Tryz.ntmps29
    go_wp2
    all_goals
      go_ret
      exact ⟨ret_bool (by rw [Bool.eq_iff_iff]; all_goals first | (simp; done) | (simp; omega)), (Below.refl _ _).alloc (Nat.le_refl _) _⟩
  subst hc
  by_cases hb : b = 0
  rotate_left
  · have hbb : (b != 0) = true := by simp [hb]
    have hbc : (b == 0) = false := by simp [hb]
    go_enter Tryz.func29, Tryz.ntmps29
    go_wp2
    all_goals
      go_ret
      exact ⟨ret_bool (by rw [Bool.eq_iff_iff]; all_goals first | (simp; done) | (simp; omega)), (Below.refl _ _).alloc (Nat.le_refl _) _⟩
  subst hb
  by_cases ha : a = 0
  rotate_left
  · have hab : (a != 0) = true := by simp [ha]
    have hac : (a == 0) = false := by simp [ha]
    go_enter Tryz.func29, Tryz.ntmps29
    go_wp2
    all_goals
      go_ret
      exact ⟨ret_bool (by rw [Bool.eq_iff_iff]; all_goals first | (simp; done) | (simp; omega)), (Below.refl _ _).alloc (Nat.le_refl _) _⟩
  subst ha
  go_enter Tryz.func29, Tryz.ntmps29
  go_wp2
  all_goals
    go_ret
    exact ⟨ret_bool (by rw [Bool.eq_iff_iff]; all_goals first | (simp; done) | (simp; omega)), (Below.refl _ _).alloc (Nat.le_refl _) _⟩
set_option maxRecDepth 100000 in
theorem rright_far20 (a b c imm : Int) (w : World)  :
    Calls Tryz.prog 29 #[.agg #[.int .i64 20, .int .i64 a, .int .i64 b, .int .i64 c, .int .i64 imm]] w fun e w' => e = .returned (.bool (rightB 20 a b c imm)) ∧ Below w.heap.size w w' := by
  rw [right_far _ _ _ _ _ (by omega)]
  by_cases hc : c = 0
  rotate_left
  · have hcb : (c != 0) = true := by simp [hc]
    have hcc : (c == 0) = false := by simp [hc]
    go_enter Tryz.func29, Tryz.ntmps29
    go_wp2
    all_goals
      go_ret
      exact ⟨ret_bool (by rw [Bool.eq_iff_iff]; all_goals first | (simp; done) | (simp; omega)), (Below.refl _ _).alloc (Nat.le_refl _) _⟩
  subst hc
  by_cases hb : b = 0
  rotate_left
  · have hbb : (b != 0) = true := by simp [hb]
    have hbc : (b == 0) = false := by simp [hb]
    go_enter Tryz.func29, Tryz.ntmps29
    go_wp2
    all_goals
      go_ret
      exact ⟨ret_bool (by rw [Bool.eq_iff_iff]; all_goals first | (simp; done) | (simp; omega)), (Below.refl _ _).alloc (Nat.le_refl _) _⟩
  subst hb
  by_cases ha : a = 0
  rotate_left
  · have hab : (a != 0) = true := by simp [ha]
    have hac : (a == 0) = false := by simp [ha]
    go_enter Tryz.func29, Tryz.ntmps29
    go_wp2
    all_goals
      go_ret
      exact ⟨ret_bool (by rw [Bool.eq_iff_iff]; all_goals first | (simp; done) | (simp; omega)), (Below.refl _ _).alloc (Nat.le_refl _) _⟩
  subst ha
  go_enter Tryz.func29, Tryz.ntmps29
  go_wp2
  all_goals
    go_ret
    exact ⟨ret_bool (by rw [Bool.eq_iff_iff]; all_goals first | (simp; done) | (simp; omega)), (Below.refl _ _).alloc (Nat.le_refl _) _⟩
set_option maxRecDepth 100000 in
theorem rright_no21 (a b c imm : Int) (w : World)  :
    Calls Tryz.prog 29 #[.agg #[.int .i64 21, .int .i64 a, .int .i64 b, .int .i64 c, .int .i64 imm]] w fun e w' => e = .returned (.bool (rightB 21 a b c imm)) ∧ Below w.heap.size w w' := by
  rw [right_no _ _ _ _ _ (by omega)]
  by_cases hc : c = 0
  rotate_left
  · have hcb : (c != 0) = true := by simp [hc]
    have hcc : (c == 0) = false := by simp [hc]
    go_enter Tryz.func29, Tryz.ntmps29
    go_wp2
    all_goals
      go_ret
      exact ⟨ret_bool (by rw [Bool.eq_iff_iff]; all_goals first | (simp; done) | (simp; omega)), (Below.refl _ _).alloc (Nat.le_refl _) _⟩
  subst hc
  by_cases hb : b = 0
  rotate_left
  · have hbb : (b != 0) = true := by simp [hb]
    have hbc : (b == 0) = false := by simp [hb]
    go_enter Tryz.func29, Tryz.ntmps29
    go_wp2
    all_goals
      go_ret
      exact ⟨ret_bool (by rw [Bool.eq_iff_iff]; all_goals first | (simp; done) | (simp; omega)), (Below.refl _ _).alloc (Nat.le_refl _) _⟩
  subst hb
  by_cases ha : a = 0
  rotate_left
  · have hab : (a != 0) = true := by simp [ha]
    have hac : (a == 0) = false := by simp [ha]
    go_enter Tryz.func29, Tryz.ntmps29
    go_wp2
    all_goals
      go_ret
      exact ⟨ret_bool (by rw [Bool.eq_iff_iff]; all_goals first | (simp; done) | (simp; omega)), (Below.refl _ _).alloc (Nat.le_refl _) _⟩
  subst ha
  go_enter Tryz.func29, Tryz.ntmps29
  go_wp2
  all_goals
    go_ret
    exact ⟨ret_bool (by rw [Bool.eq_iff_iff]; all_goals first | (simp; done) | (simp; omega)), (Below.refl _ _).alloc (Nat.le_refl _) _⟩
set_option maxRecDepth 100000 in
theorem rright_no24 (a b c imm : Int) (w : World)  :
    Calls Tryz.prog 29 #[.agg #[.int .i64 24, .int .i64 a, .int .i64 b, .int .i64 c, .int .i64 imm]] w fun e w' => e = .returned (.bool (rightB 24 a b c imm)) ∧ Below w.heap.size w w' := by
  rw [right_no _ _ _ _ _ (by omega)]
  by_cases hc : c = 0
  rotate_left
  · have hcb : (c != 0) = true := by simp [hc]
    have hcc : (c == 0) = false := by simp [hc]
    go_enter Tryz.func29, Tryz.ntmps29
    go_wp2
    all_goals
      go_ret
      exact ⟨ret_bool (by rw [Bool.eq_iff_iff]; all_goals first | (simp; done) | (simp; omega)), (Below.refl _ _).alloc (Nat.le_refl _) _⟩
  subst hc
  by_cases hb : b = 0
  rotate_left
  · have hbb : (b != 0) = true := by simp [hb]
    have hbc : (b == 0) = false := by simp [hb]
    go_enter Tryz.func29, Tryz.ntmps29
    go_wp2
    all_goals
      go_ret
      exact ⟨ret_bool (by rw [Bool.eq_iff_iff]; all_goals first | (simp; done) | (simp; omega)), (Below.refl _ _).alloc (Nat.le_refl _) _⟩
  subst hb
  by_cases ha : a = 0
  rotate_left
  · have hab : (a != 0) = true := by simp [ha]
    have hac : (a == 0) = false := by simp [ha]
    go_enter Tryz.func29, Tryz.ntmps29
    go_wp2
    all_goals
      go_ret
      exact ⟨ret_bool (by rw [Bool.eq_iff_iff]; all_goals first | (simp; done) | (simp; omega)), (Below.refl _ _).alloc (Nat.le_refl _) _⟩
  subst ha
  go_enter Tryz.func29, Tryz.ntmps29
  go_wp2
  all_goals
    go_ret
    exact ⟨ret_bool (by rw [Bool.eq_iff_iff]; all_goals first | (simp; done) | (simp; omega)), (Below.refl _ _).alloc (Nat.le_refl _) _⟩
set_option maxRecDepth 100000 in
theorem rright_no25 (a b c imm : Int) (w : World)  :
    Calls Tryz.prog 29 #[.agg #[.int .i64 25, .int .i64 a, .int .i64 b, .int .i64 c, .int .i64 imm]] w fun e w' => e = .returned (.bool (rightB 25 a b c imm)) ∧ Below w.heap.size w w' := by
  rw [right_no _ _ _ _ _ (by omega)]
  by_cases hc : c = 0
  rotate_left
  · have hcb : (c != 0) = true := by simp [hc]
    have hcc : (c == 0) = false := by simp [hc]
    go_enter Tryz.func29, Tryz.ntmps29
    go_wp2
    all_goals
      go_ret
      exact ⟨ret_bool (by rw [Bool.eq_iff_iff]; all_goals first | (simp; done) | (simp; omega)), (Below.refl _ _).alloc (Nat.le_refl _) _⟩
  subst hc
  by_cases hb : b = 0
  rotate_left
  · have hbb : (b != 0) = true := by simp [hb]
    have hbc : (b == 0) = false := by simp [hb]
    go_enter Tryz.func29, Tryz.ntmps29
    go_wp2
    all_goals
      go_ret
      exact ⟨ret_bool (by rw [Bool.eq_iff_iff]; all_goals first | (simp; done) | (simp; omega)), (Below.refl _ _).alloc (Nat.le_refl _) _⟩
  subst hb
  by_cases ha : a = 0
  rotate_left
  · have hab : (a != 0) = true := by simp [ha]
    have hac : (a == 0) = false := by simp [ha]
    go_enter Tryz.func29, Tryz.ntmps29
    go_wp2
    all_goals
      go_ret
      exact ⟨ret_bool (by rw [Bool.eq_iff_iff]; all_goals first | (simp; done) | (simp; omega)), (Below.refl _ _).alloc (Nat.le_refl _) _⟩
  subst ha
  go_enter Tryz.func29, Tryz.ntmps29
  go_wp2
  all_goals
    go_ret
    exact ⟨ret_bool (by rw [Bool.eq_iff_iff]; all_goals first | (simp; done) | (simp; omega)), (Below.refl _ _).alloc (Nat.le_refl _) _⟩
set_option maxRecDepth 100000 in
theorem rright_low (op a b c imm : Int) (w : World) (h1 : op < 0) :
    Calls Tryz.prog 29 #[.agg #[.int .i64 op, .int .i64 a, .int .i64 b, .int .i64 c, .int .i64 imm]] w fun e w' => e = .returned (.bool (rightB op a b c imm)) ∧ Below w.heap.size w w' := by
  rw [right_out _ _ _ _ _ (Or.inl h1)]
  have q0 : (op == 0) = false := by simp; omega
  have q8 : (op == 8) = false := by simp; omega
  have q9 : (op == 9) = false := by simp; omega
  have q10 : (op == 10) = false := by simp; omega
  have q19 : (op == 19) = false := by simp; omega
  have q20 : (op == 20) = false := by simp; omega
  have q21 : (op == 21) = false := by simp; omega
  have q22 : (op == 22) = false := by simp; omega
  have q23 : (op == 23) = false := by simp; omega
  have q24 : (op == 24) = false := by simp; omega
  have q25 : (op == 25) = false := by simp; omega
  by_cases hc : c = 0
  rotate_left
  · have hcb : (c != 0) = true := by simp [hc]
    have hcc : (c == 0) = false := by simp [hc]
    go_enter Tryz.func29, Tryz.ntmps29
    go_wp2
    all_goals
      go_ret
      exact ⟨ret_bool (by rw [Bool.eq_iff_iff]; all_goals first | (simp; done) | (simp; omega)), (Below.refl _ _).alloc (Nat.le_refl _) _⟩
  subst hc
  by_cases hb : b = 0
  rotate_left
  · have hbb : (b != 0) = true := by simp [hb]
    have hbc : (b == 0) = false := by simp [hb]
    go_enter Tryz.func29, Tryz.ntmps29
    go_wp2
    all_goals
      go_ret
      exact ⟨ret_bool (by rw [Bool.eq_iff_iff]; all_goals first | (simp; done) | (simp; omega)), (Below.refl _ _).alloc (Nat.le_refl _) _⟩
  subst hb
  go_enter Tryz.func29, Tryz.ntmps29
  go_wp2
  all_goals
    go_ret
    exact ⟨ret_bool (by rw [Bool.eq_iff_iff]; all_goals first | (simp; done) | (simp; omega)), (Below.refl _ _).alloc (Nat.le_refl _) _⟩
set_option maxRecDepth 100000 in
theorem rright_high26 (op a b c imm : Int) (w : World) (h1 : 26 ≤ op) :
    Calls Tryz.prog 29 #[.agg #[.int .i64 op, .int .i64 a, .int .i64 b, .int .i64 c, .int .i64 imm]] w fun e w' => e = .returned (.bool (rightB op a b c imm)) ∧ Below w.heap.size w w' := by
  rw [right_out _ _ _ _ _ (Or.inr h1)]
  have q0 : (op == 0) = false := by simp; omega
  have q8 : (op == 8) = false := by simp; omega
  have q9 : (op == 9) = false := by simp; omega
  have q10 : (op == 10) = false := by simp; omega
  have q19 : (op == 19) = false := by simp; omega
  have q20 : (op == 20) = false := by simp; omega
  have q21 : (op == 21) = false := by simp; omega
  have q22 : (op == 22) = false := by simp; omega
  have q23 : (op == 23) = false := by simp; omega
  have q24 : (op == 24) = false := by simp; omega
  have q25 : (op == 25) = false := by simp; omega
  by_cases hc : c = 0
  rotate_left
  · have hcb : (c != 0) = true := by simp [hc]
    have hcc : (c == 0) = false := by simp [hc]
    go_enter Tryz.func29, Tryz.ntmps29
    go_wp2
    all_goals
      go_ret
      exact ⟨ret_bool (by rw [Bool.eq_iff_iff]; all_goals first | (simp; done) | (simp; omega)), (Below.refl _ _).alloc (Nat.le_refl _) _⟩
  subst hc
  by_cases hb : b = 0
  rotate_left
  · have hbb : (b != 0) = true := by simp [hb]
    have hbc : (b == 0) = false := by simp [hb]
    go_enter Tryz.func29, Tryz.ntmps29
    go_wp2
    all_goals
      go_ret
      exact ⟨ret_bool (by rw [Bool.eq_iff_iff]; all_goals first | (simp; done) | (simp; omega)), (Below.refl _ _).alloc (Nat.le_refl _) _⟩
  subst hb
  go_enter Tryz.func29, Tryz.ntmps29
  go_wp2
  all_goals
    go_ret
    exact ⟨ret_bool (by rw [Bool.eq_iff_iff]; all_goals first | (simp; done) | (simp; omega)), (Below.refl _ _).alloc (Nat.le_refl _) _⟩

theorem rright_any (op a b c imm : Int) (w : World) :
    Calls Tryz.prog 29 #[.agg #[.int .i64 op, .int .i64 a, .int .i64 b, .int .i64 c, .int .i64 imm]] w fun e w' => e = .returned (.bool (rightB op a b c imm)) ∧ Below w.heap.size w w' := by
  rcases (by omega : op < 0 ∨ op = 0 ∨ (1 ≤ op ∧ op ≤ 7) ∨ op = 8 ∨ op = 9 ∨ op = 10 ∨ (11 ≤ op ∧ op ≤ 14) ∨ (15 ≤ op ∧ op ≤ 18) ∨ op = 19 ∨ op = 20 ∨ op = 21 ∨ op = 22 ∨ op = 23 ∨ op = 24 ∨ op = 25 ∨ 26 ≤ op) with h | rfl | ⟨h, h'⟩ | rfl | rfl | rfl | ⟨h, h'⟩ | ⟨h, h'⟩ | rfl | rfl | rfl | rfl | rfl | rfl | rfl | h
  · exact rright_low op a b c imm w h
  · exact rright_one0 a b c imm w
  · exact rright_three op a b c imm w h h'
  · exact rright_near8 a b c imm w
  · exact rright_high a b c imm w
  · exact rright_ori a b c imm w
  · exact rright_near op a b c imm w h h'
  · exact rright_branch op a b c imm w h h'
  · exact rright_far19 a b c imm w
  · exact rright_far20 a b c imm w
  · exact rright_no21 a b c imm w
  · exact rright_one22 a b c imm w
  · exact rright_one23 a b c imm w
  · exact rright_no24 a b c imm w
  · exact rright_no25 a b c imm w
  · exact rright_high26 op a b c imm w h
open Go.ChangeShapes Go.WideShapes Go.ChangeAt Go.RowKit
set_option linter.unusedVariables false

theorem cut_bd8 (x : Int) : 0 ≤ cutZ x 8 ∧ cutZ x 8 < 256 := by rw [cut_8]; omega
theorem cut_bd16 (x : Int) : 0 ≤ cutZ x 16 ∧ cutZ x 16 < 65536 := by rw [cut_16]; omega
theorem cut_bd24 (x : Int) : 0 ≤ cutZ x 24 ∧ cutZ x 24 < 16777216 := by rw [cut_24]; omega

theorem imm_none (op a b c imm : Int) (hr : rightB op a b c imm = true) (h : op ≤ 7 ∨ 21 ≤ op) : imm = 0 := by
  rcases (by omega : op < 0 ∨ 26 ≤ op ∨ (1 ≤ op ∧ op ≤ 7) ∨ (op = 0 ∨ op = 22 ∨ op = 23) ∨ (op = 21 ∨ op = 24 ∨ op = 25)) with g | g | g | g | g
  · rw [right_out _ _ _ _ _ (Or.inl g)] at hr; cases hr
  · rw [right_out _ _ _ _ _ (Or.inr g)] at hr; cases hr
  · rw [right_three _ _ _ _ _ g] at hr; simp at hr; omega
  · rw [right_one _ _ _ _ _ g] at hr; simp at hr; omega
  · rw [right_no _ _ _ _ _ g] at hr; simp at hr; omega

def threeB (op : Int) : Bool := decide (1 ≤ op ∧ op ≤ 7)
def nearB (op : Int) : Bool := decide (op = 8 ∨ 11 ≤ op ∧ op ≤ 14)
def branchB (op : Int) : Bool := decide (15 ≤ op ∧ op ≤ 18)
def farB (op : Int) : Bool := decide (op = 19 ∨ op = 20)
theorem three_any (op : Int) (w : World) : Calls Tryz.prog 26 #[.int .i64 op] w fun e w' => e = .returned (.bool (threeB op)) ∧ w' = w := by
  by_cases h : 1 ≤ op
  all_goals
    go_enter Tryz.func26, Tryz.ntmps26
    go_wp2
    go_ret
    exact ⟨ret_bool (by unfold threeB; simp <;> omega), rfl⟩
theorem branch_any (op : Int) (w : World) : Calls Tryz.prog 28 #[.int .i64 op] w fun e w' => e = .returned (.bool (branchB op)) ∧ w' = w := by
  by_cases h : 15 ≤ op
  all_goals
    go_enter Tryz.func28, Tryz.ntmps28
    go_wp2
    go_ret
    exact ⟨ret_bool (by unfold branchB; simp <;> omega), rfl⟩
theorem far_any (op : Int) (w : World) : Calls Tryz.prog 24 #[.int .i64 op] w fun e w' => e = .returned (.bool (farB op)) ∧ w' = w := by
  by_cases h : op = 19
  · subst h
    go_enter Tryz.func24, Tryz.ntmps24
    go_wp2
    go_ret
    exact ⟨rfl, rfl⟩
  · have q : (op == 19) = false := by simp [h]
    go_enter Tryz.func24, Tryz.ntmps24
    go_wp2
    go_ret
    exact ⟨ret_bool (by unfold farB; rw [Bool.eq_iff_iff]; simp [h]), rfl⟩
theorem near_any (op : Int) (w : World) : Calls Tryz.prog 27 #[.int .i64 op] w fun e w' => e = .returned (.bool (nearB op)) ∧ w' = w := by
  by_cases h : op = 8
  · subst h
    go_enter Tryz.func27, Tryz.ntmps27
    go_wp2
    go_ret
    exact ⟨rfl, rfl⟩
  · have q : (op == 8) = false := by simp [h]
    by_cases h1 : 11 ≤ op
    all_goals
      go_enter Tryz.func27, Tryz.ntmps27
      go_wp2
      go_ret
      exact ⟨ret_bool (by unfold nearB; rw [Bool.eq_iff_iff]; simp [h] <;> omega), rfl⟩
theorem rget_three (x : Int) (w : World) (x0 : 0 ≤ x) (x1 : x < 4294967296) (hfar : farB (x / 16777216) = false) (hthree : threeB (x / 16777216) = true) :
    Calls Tryz.prog 13 #[.int .u32 x] w fun e w' => e = .returned (if rightB (x / 16777216) (x / 1048576 % 16) (x / 65536 % 16) (x % 65536) 0 = true then .tuple #[.agg (insV (x / 16777216) (x / 1048576 % 16) (x / 65536 % 16) (x % 65536) 0), .bool true] else .tuple #[.agg (insV 0 0 0 0 0), .bool false]) ∧ Below w.heap.size w w' := by
  have HRR : Hid (∀ wx, Calls Tryz.prog 29 #[.agg #[.int .i64 (x / 16777216), .int .i64 (x / 1048576 % 16), .int .i64 (x / 65536 % 16), .int .i64 (x % 65536), .int .i64 0]] wx fun e w' => e = .returned (.bool (rightB (x / 16777216) (x / 1048576 % 16) (x / 65536 % 16) (x % 65536) 0)) ∧ Below wx.heap.size wx w') := fun wx => rright_any _ _ _ _ _ wx
  generalize rightB (x / 16777216) (x / 1048576 % 16) (x / 65536 % 16) (x % 65536) 0 = q at *
  cases q
  · rw [if_neg (by decide)]
    go_enter Tryz.func13, Tryz.ntmps13
    go_wp2_with (first
      | (go_at_call 24; refine (far_any _ _).mono ?_; rintro e w' ⟨rfl, rfl⟩; rw [hfar])
      | (go_at_call 26; refine (three_any _ _).mono ?_; rintro e w' ⟨rfl, rfl⟩; rw [hthree]))
    refine Calls.mono (HRR.out _) ?_
    rintro e w1 ⟨rfl, hb⟩
    obtain ⟨hc1, hc2, hf1, hf2, hs⟩ := two_new hb
    have hs0 : w.heap.size < w1.heap.size := by omega
    have z0 := hc1 0 (.int .i64 0) rfl
    have z1 := hc1 1 (.int .i64 0) rfl
    have z2 := hc1 2 (.int .i64 0) rfl
    have z3 := hc1 3 (.int .i64 0) rfl
    have z4 := hc1 4 (.int .i64 0) rfl
    have y0 := hc2 0 (.int .i64 (x / 16777216)) rfl
    have y1 := hc2 1 (.int .i64 (x / 1048576 % 16)) rfl
    have y2 := hc2 2 (.int .i64 (x / 65536 % 16)) rfl
    have y3 := hc2 3 (.int .i64 (x % 65536)) rfl
    have y4 := hc2 4 (.int .i64 0) rfl
    have HB : Hid (Below w.heap.size w w1) := (((Below.refl _ _).alloc (Nat.le_refl _) _).alloc (by simp) _).trans (hb.mono (by simp; omega))
    clear hb hc1 hc2
    go_wp2
    refine bodyPost_ret (v := Value.tuple #[.agg (insV 0 0 0 0 0), .bool false]) ?_ rfl ⟨rfl, five_set' HB.out _ _ _ _ _⟩
    simp [results, Tryz.results13, go_sem, insV, z0, z1, z2, z3, z4]
  · rw [if_pos rfl]
    go_enter Tryz.func13, Tryz.ntmps13
    go_wp2_with (first
      | (go_at_call 24; refine (far_any _ _).mono ?_; rintro e w' ⟨rfl, rfl⟩; rw [hfar])
      | (go_at_call 26; refine (three_any _ _).mono ?_; rintro e w' ⟨rfl, rfl⟩; rw [hthree]))
    refine Calls.mono (HRR.out _) ?_
    rintro e w1 ⟨rfl, hb⟩
    obtain ⟨hc1, hc2, hf1, hf2, hs⟩ := two_new hb
    have hs0 : w.heap.size < w1.heap.size := by omega
    have z0 := hc1 0 (.int .i64 0) rfl
    have z1 := hc1 1 (.int .i64 0) rfl
    have z2 := hc1 2 (.int .i64 0) rfl
    have z3 := hc1 3 (.int .i64 0) rfl
    have z4 := hc1 4 (.int .i64 0) rfl
    have y0 := hc2 0 (.int .i64 (x / 16777216)) rfl
    have y1 := hc2 1 (.int .i64 (x / 1048576 % 16)) rfl
    have y2 := hc2 2 (.int .i64 (x / 65536 % 16)) rfl
    have y3 := hc2 3 (.int .i64 (x % 65536)) rfl
    have y4 := hc2 4 (.int .i64 0) rfl
    have HB : Hid (Below w.heap.size w w1) := (((Below.refl _ _).alloc (Nat.le_refl _) _).alloc (by simp) _).trans (hb.mono (by simp; omega))
    clear hb hc1 hc2
    go_wp2
    refine bodyPost_ret (v := Value.tuple #[.agg (insV (x / 16777216) (x / 1048576 % 16) (x / 65536 % 16) (x % 65536) 0), .bool true]) ?_ rfl ⟨rfl, five_set' HB.out _ _ _ _ _⟩
    simp [results, Tryz.results13, go_sem, insV, z0, z1, z2, z3, z4]
theorem rget_near (x : Int) (w : World) (x0 : 0 ≤ x) (x1 : x < 4294967296) (hfar : farB (x / 16777216) = false) (hthree : threeB (x / 16777216) = false) (hnear : nearB (x / 16777216) = true) :
    Calls Tryz.prog 13 #[.int .u32 x] w fun e w' => e = .returned (if rightB (x / 16777216) (x / 1048576 % 16) (x / 65536 % 16) 0 (signZ x 16) = true then .tuple #[.agg (insV (x / 16777216) (x / 1048576 % 16) (x / 65536 % 16) 0 (signZ x 16)), .bool true] else .tuple #[.agg (insV 0 0 0 0 0), .bool false]) ∧ Below w.heap.size w w' := by
  have HR : Hid (∀ wx, Calls Tryz.prog 25 #[.int .u32 x, .int .i64 16] wx fun e w' => e = .returned (.int .i64 (signZ x 16)) ∧ w' = wx) := fun wx => rsign_any x 16 wx x0 x1
  obtain ⟨g0, g1⟩ := sign_bd x 16
  generalize signZ x 16 = si at *
  have HRR : Hid (∀ wx, Calls Tryz.prog 29 #[.agg #[.int .i64 (x / 16777216), .int .i64 (x / 1048576 % 16), .int .i64 (x / 65536 % 16), .int .i64 0, .int .i64 si]] wx fun e w' => e = .returned (.bool (rightB (x / 16777216) (x / 1048576 % 16) (x / 65536 % 16) 0 si)) ∧ Below wx.heap.size wx w') := fun wx => rright_any _ _ _ _ _ wx
  generalize rightB (x / 16777216) (x / 1048576 % 16) (x / 65536 % 16) 0 si = q at *
  cases q
  · rw [if_neg (by decide)]
    go_enter Tryz.func13, Tryz.ntmps13
    go_wp2_with (first
      | (go_at_call 24; refine (far_any _ _).mono ?_; rintro e w' ⟨rfl, rfl⟩; rw [hfar])
      | (go_at_call 26; refine (three_any _ _).mono ?_; rintro e w' ⟨rfl, rfl⟩; rw [hthree])
      | (go_at_call 27; refine (near_any _ _).mono ?_; rintro e w' ⟨rfl, rfl⟩; rw [hnear])
      | (go_at_call 25; refine Calls.mono (HR.out _) ?_; rintro e w' ⟨rfl, rfl⟩))
    refine Calls.mono (HRR.out _) ?_
    rintro e w1 ⟨rfl, hb⟩
    obtain ⟨hc1, hc2, hf1, hf2, hs⟩ := two_new hb
    have hs0 : w.heap.size < w1.heap.size := by omega
    have z0 := hc1 0 (.int .i64 0) rfl
    have z1 := hc1 1 (.int .i64 0) rfl
    have z2 := hc1 2 (.int .i64 0) rfl
    have z3 := hc1 3 (.int .i64 0) rfl
    have z4 := hc1 4 (.int .i64 0) rfl
    have y0 := hc2 0 (.int .i64 (x / 16777216)) rfl
    have y1 := hc2 1 (.int .i64 (x / 1048576 % 16)) rfl
    have y2 := hc2 2 (.int .i64 (x / 65536 % 16)) rfl
    have y3 := hc2 3 (.int .i64 0) rfl
    have y4 := hc2 4 (.int .i64 si) rfl
    have HB : Hid (Below w.heap.size w w1) := (((Below.refl _ _).alloc (Nat.le_refl _) _).alloc (by simp) _).trans (hb.mono (by simp; omega))
    clear hb hc1 hc2
    go_wp2
    refine bodyPost_ret (v := Value.tuple #[.agg (insV 0 0 0 0 0), .bool false]) ?_ rfl ⟨rfl, five_set' HB.out _ _ _ _ _⟩
    simp [results, Tryz.results13, go_sem, insV, z0, z1, z2, z3, z4]
  · rw [if_pos rfl]
    go_enter Tryz.func13, Tryz.ntmps13
    go_wp2_with (first
      | (go_at_call 24; refine (far_any _ _).mono ?_; rintro e w' ⟨rfl, rfl⟩; rw [hfar])
      | (go_at_call 26; refine (three_any _ _).mono ?_; rintro e w' ⟨rfl, rfl⟩; rw [hthree])
      | (go_at_call 27; refine (near_any _ _).mono ?_; rintro e w' ⟨rfl, rfl⟩; rw [hnear])
      | (go_at_call 25; refine Calls.mono (HR.out _) ?_; rintro e w' ⟨rfl, rfl⟩))
    refine Calls.mono (HRR.out _) ?_
    rintro e w1 ⟨rfl, hb⟩
    obtain ⟨hc1, hc2, hf1, hf2, hs⟩ := two_new hb
    have hs0 : w.heap.size < w1.heap.size := by omega
    have z0 := hc1 0 (.int .i64 0) rfl
    have z1 := hc1 1 (.int .i64 0) rfl
    have z2 := hc1 2 (.int .i64 0) rfl
    have z3 := hc1 3 (.int .i64 0) rfl
    have z4 := hc1 4 (.int .i64 0) rfl
    have y0 := hc2 0 (.int .i64 (x / 16777216)) rfl
    have y1 := hc2 1 (.int .i64 (x / 1048576 % 16)) rfl
    have y2 := hc2 2 (.int .i64 (x / 65536 % 16)) rfl
    have y3 := hc2 3 (.int .i64 0) rfl
    have y4 := hc2 4 (.int .i64 si) rfl
    have HB : Hid (Below w.heap.size w w1) := (((Below.refl _ _).alloc (Nat.le_refl _) _).alloc (by simp) _).trans (hb.mono (by simp; omega))
    clear hb hc1 hc2
    go_wp2
    refine bodyPost_ret (v := Value.tuple #[.agg (insV (x / 16777216) (x / 1048576 % 16) (x / 65536 % 16) 0 si), .bool true]) ?_ rfl ⟨rfl, five_set' HB.out _ _ _ _ _⟩
    simp [results, Tryz.results13, go_sem, insV, z0, z1, z2, z3, z4]
theorem rget_branch (x : Int) (w : World) (x0 : 0 ≤ x) (x1 : x < 4294967296) (hfar : farB (x / 16777216) = false) (hthree : threeB (x / 16777216) = false) (hnear : nearB (x / 16777216) = false) (hbranch : branchB (x / 16777216) = true) (hle : x % 65536 ≤ 255) :
    Calls Tryz.prog 13 #[.int .u32 x] w fun e w' => e = .returned (if rightB (x / 16777216) (x / 1048576 % 16) (x / 65536 % 16) 0 (signZ x 8) = true then .tuple #[.agg (insV (x / 16777216) (x / 1048576 % 16) (x / 65536 % 16) 0 (signZ x 8)), .bool true] else .tuple #[.agg (insV 0 0 0 0 0), .bool false]) ∧ Below w.heap.size w w' := by
  have HR : Hid (∀ wx, Calls Tryz.prog 25 #[.int .u32 x, .int .i64 8] wx fun e w' => e = .returned (.int .i64 (signZ x 8)) ∧ w' = wx) := fun wx => rsign_any x 8 wx x0 x1
  obtain ⟨g0, g1⟩ := sign_bd x 8
  generalize signZ x 8 = si at *
  have HRR : Hid (∀ wx, Calls Tryz.prog 29 #[.agg #[.int .i64 (x / 16777216), .int .i64 (x / 1048576 % 16), .int .i64 (x / 65536 % 16), .int .i64 0, .int .i64 si]] wx fun e w' => e = .returned (.bool (rightB (x / 16777216) (x / 1048576 % 16) (x / 65536 % 16) 0 si)) ∧ Below wx.heap.size wx w') := fun wx => rright_any _ _ _ _ _ wx
  generalize rightB (x / 16777216) (x / 1048576 % 16) (x / 65536 % 16) 0 si = q at *
  cases q
  · rw [if_neg (by decide)]
    go_enter Tryz.func13, Tryz.ntmps13
    go_wp2_with (first
      | (go_at_call 24; refine (far_any _ _).mono ?_; rintro e w' ⟨rfl, rfl⟩; rw [hfar])
      | (go_at_call 26; refine (three_any _ _).mono ?_; rintro e w' ⟨rfl, rfl⟩; rw [hthree])
      | (go_at_call 27; refine (near_any _ _).mono ?_; rintro e w' ⟨rfl, rfl⟩; rw [hnear])
      | (go_at_call 28; refine (branch_any _ _).mono ?_; rintro e w' ⟨rfl, rfl⟩; rw [hbranch])
      | (go_at_call 25; refine Calls.mono (HR.out _) ?_; rintro e w' ⟨rfl, rfl⟩))
    refine Calls.mono (HRR.out _) ?_
    rintro e w1 ⟨rfl, hb⟩
    obtain ⟨hc1, hc2, hf1, hf2, hs⟩ := two_new hb
    have hs0 : w.heap.size < w1.heap.size := by omega
    have z0 := hc1 0 (.int .i64 0) rfl
    have z1 := hc1 1 (.int .i64 0) rfl
    have z2 := hc1 2 (.int .i64 0) rfl
    have z3 := hc1 3 (.int .i64 0) rfl
    have z4 := hc1 4 (.int .i64 0) rfl
    have y0 := hc2 0 (.int .i64 (x / 16777216)) rfl
    have y1 := hc2 1 (.int .i64 (x / 1048576 % 16)) rfl
    have y2 := hc2 2 (.int .i64 (x / 65536 % 16)) rfl
    have y3 := hc2 3 (.int .i64 0) rfl
    have y4 := hc2 4 (.int .i64 si) rfl
    have HB : Hid (Below w.heap.size w w1) := (((Below.refl _ _).alloc (Nat.le_refl _) _).alloc (by simp) _).trans (hb.mono (by simp; omega))
    clear hb hc1 hc2
    go_wp2
    refine bodyPost_ret (v := Value.tuple #[.agg (insV 0 0 0 0 0), .bool false]) ?_ rfl ⟨rfl, five_set' HB.out _ _ _ _ _⟩
    simp [results, Tryz.results13, go_sem, insV, z0, z1, z2, z3, z4]
  · rw [if_pos rfl]
    go_enter Tryz.func13, Tryz.ntmps13
    go_wp2_with (first
      | (go_at_call 24; refine (far_any _ _).mono ?_; rintro e w' ⟨rfl, rfl⟩; rw [hfar])
      | (go_at_call 26; refine (three_any _ _).mono ?_; rintro e w' ⟨rfl, rfl⟩; rw [hthree])
      | (go_at_call 27; refine (near_any _ _).mono ?_; rintro e w' ⟨rfl, rfl⟩; rw [hnear])
      | (go_at_call 28; refine (branch_any _ _).mono ?_; rintro e w' ⟨rfl, rfl⟩; rw [hbranch])
      | (go_at_call 25; refine Calls.mono (HR.out _) ?_; rintro e w' ⟨rfl, rfl⟩))
    refine Calls.mono (HRR.out _) ?_
    rintro e w1 ⟨rfl, hb⟩
    obtain ⟨hc1, hc2, hf1, hf2, hs⟩ := two_new hb
    have hs0 : w.heap.size < w1.heap.size := by omega
    have z0 := hc1 0 (.int .i64 0) rfl
    have z1 := hc1 1 (.int .i64 0) rfl
    have z2 := hc1 2 (.int .i64 0) rfl
    have z3 := hc1 3 (.int .i64 0) rfl
    have z4 := hc1 4 (.int .i64 0) rfl
    have y0 := hc2 0 (.int .i64 (x / 16777216)) rfl
    have y1 := hc2 1 (.int .i64 (x / 1048576 % 16)) rfl
    have y2 := hc2 2 (.int .i64 (x / 65536 % 16)) rfl
    have y3 := hc2 3 (.int .i64 0) rfl
    have y4 := hc2 4 (.int .i64 si) rfl
    have HB : Hid (Below w.heap.size w w1) := (((Below.refl _ _).alloc (Nat.le_refl _) _).alloc (by simp) _).trans (hb.mono (by simp; omega))
    clear hb hc1 hc2
    go_wp2
    refine bodyPost_ret (v := Value.tuple #[.agg (insV (x / 16777216) (x / 1048576 % 16) (x / 65536 % 16) 0 si), .bool true]) ?_ rfl ⟨rfl, five_set' HB.out _ _ _ _ _⟩
    simp [results, Tryz.results13, go_sem, insV, z0, z1, z2, z3, z4]
theorem rget_far (x : Int) (w : World) (x0 : 0 ≤ x) (x1 : x < 4294967296) (hfar : farB (x / 16777216) = true) (hthree : threeB (x / 16777216) = false) (hnear : nearB (x / 16777216) = false) (hbranch : branchB (x / 16777216) = false) :
    Calls Tryz.prog 13 #[.int .u32 x] w fun e w' => e = .returned (if rightB (x / 16777216) 0 0 0 (signZ x 24) = true then .tuple #[.agg (insV (x / 16777216) 0 0 0 (signZ x 24)), .bool true] else .tuple #[.agg (insV 0 0 0 0 0), .bool false]) ∧ Below w.heap.size w w' := by
  have HR : Hid (∀ wx, Calls Tryz.prog 25 #[.int .u32 x, .int .i64 24] wx fun e w' => e = .returned (.int .i64 (signZ x 24)) ∧ w' = wx) := fun wx => rsign_any x 24 wx x0 x1
  obtain ⟨g0, g1⟩ := sign_bd x 24
  generalize signZ x 24 = si at *
  have HRR : Hid (∀ wx, Calls Tryz.prog 29 #[.agg #[.int .i64 (x / 16777216), .int .i64 0, .int .i64 0, .int .i64 0, .int .i64 si]] wx fun e w' => e = .returned (.bool (rightB (x / 16777216) 0 0 0 si)) ∧ Below wx.heap.size wx w') := fun wx => rright_any _ _ _ _ _ wx
  generalize rightB (x / 16777216) 0 0 0 si = q at *
  cases q
  · rw [if_neg (by decide)]
    go_enter Tryz.func13, Tryz.ntmps13
    go_wp2_with (first
      | (go_at_call 24; refine (far_any _ _).mono ?_; rintro e w' ⟨rfl, rfl⟩; rw [hfar])
      | (go_at_call 26; refine (three_any _ _).mono ?_; rintro e w' ⟨rfl, rfl⟩; rw [hthree])
      | (go_at_call 27; refine (near_any _ _).mono ?_; rintro e w' ⟨rfl, rfl⟩; rw [hnear])
      | (go_at_call 28; refine (branch_any _ _).mono ?_; rintro e w' ⟨rfl, rfl⟩; rw [hbranch])
      | (go_at_call 25; refine Calls.mono (HR.out _) ?_; rintro e w' ⟨rfl, rfl⟩))
    refine Calls.mono (HRR.out _) ?_
    rintro e w1 ⟨rfl, hb⟩
    obtain ⟨hc1, hc2, hf1, hf2, hs⟩ := two_new hb
    have hs0 : w.heap.size < w1.heap.size := by omega
    have z0 := hc1 0 (.int .i64 0) rfl
    have z1 := hc1 1 (.int .i64 0) rfl
    have z2 := hc1 2 (.int .i64 0) rfl
    have z3 := hc1 3 (.int .i64 0) rfl
    have z4 := hc1 4 (.int .i64 0) rfl
    have y0 := hc2 0 (.int .i64 (x / 16777216)) rfl
    have y1 := hc2 1 (.int .i64 0) rfl
    have y2 := hc2 2 (.int .i64 0) rfl
    have y3 := hc2 3 (.int .i64 0) rfl
    have y4 := hc2 4 (.int .i64 si) rfl
    have HB : Hid (Below w.heap.size w w1) := (((Below.refl _ _).alloc (Nat.le_refl _) _).alloc (by simp) _).trans (hb.mono (by simp; omega))
    clear hb hc1 hc2
    go_wp2
    refine bodyPost_ret (v := Value.tuple #[.agg (insV 0 0 0 0 0), .bool false]) ?_ rfl ⟨rfl, five_set' HB.out _ _ _ _ _⟩
    simp [results, Tryz.results13, go_sem, insV, z0, z1, z2, z3, z4]
  · rw [if_pos rfl]
    go_enter Tryz.func13, Tryz.ntmps13
    go_wp2_with (first
      | (go_at_call 24; refine (far_any _ _).mono ?_; rintro e w' ⟨rfl, rfl⟩; rw [hfar])
      | (go_at_call 26; refine (three_any _ _).mono ?_; rintro e w' ⟨rfl, rfl⟩; rw [hthree])
      | (go_at_call 27; refine (near_any _ _).mono ?_; rintro e w' ⟨rfl, rfl⟩; rw [hnear])
      | (go_at_call 28; refine (branch_any _ _).mono ?_; rintro e w' ⟨rfl, rfl⟩; rw [hbranch])
      | (go_at_call 25; refine Calls.mono (HR.out _) ?_; rintro e w' ⟨rfl, rfl⟩))
    refine Calls.mono (HRR.out _) ?_
    rintro e w1 ⟨rfl, hb⟩
    obtain ⟨hc1, hc2, hf1, hf2, hs⟩ := two_new hb
    have hs0 : w.heap.size < w1.heap.size := by omega
    have z0 := hc1 0 (.int .i64 0) rfl
    have z1 := hc1 1 (.int .i64 0) rfl
    have z2 := hc1 2 (.int .i64 0) rfl
    have z3 := hc1 3 (.int .i64 0) rfl
    have z4 := hc1 4 (.int .i64 0) rfl
    have y0 := hc2 0 (.int .i64 (x / 16777216)) rfl
    have y1 := hc2 1 (.int .i64 0) rfl
    have y2 := hc2 2 (.int .i64 0) rfl
    have y3 := hc2 3 (.int .i64 0) rfl
    have y4 := hc2 4 (.int .i64 si) rfl
    have HB : Hid (Below w.heap.size w w1) := (((Below.refl _ _).alloc (Nat.le_refl _) _).alloc (by simp) _).trans (hb.mono (by simp; omega))
    clear hb hc1 hc2
    go_wp2
    refine bodyPost_ret (v := Value.tuple #[.agg (insV (x / 16777216) 0 0 0 si), .bool true]) ?_ rfl ⟨rfl, five_set' HB.out _ _ _ _ _⟩
    simp [results, Tryz.results13, go_sem, insV, z0, z1, z2, z3, z4]
theorem rget_other (x : Int) (w : World) (x0 : 0 ≤ x) (x1 : x < 4294967296) (hfar : farB (x / 16777216) = false) (hthree : threeB (x / 16777216) = false) (hnear : nearB (x / 16777216) = false) (hbranch : branchB (x / 16777216) = false) :
    Calls Tryz.prog 13 #[.int .u32 x] w fun e w' => e = .returned (if rightB (x / 16777216) (x / 1048576 % 16) (x / 65536 % 16) 0 (x % 65536) = true then .tuple #[.agg (insV (x / 16777216) (x / 1048576 % 16) (x / 65536 % 16) 0 (x % 65536)), .bool true] else .tuple #[.agg (insV 0 0 0 0 0), .bool false]) ∧ Below w.heap.size w w' := by
  have HRR : Hid (∀ wx, Calls Tryz.prog 29 #[.agg #[.int .i64 (x / 16777216), .int .i64 (x / 1048576 % 16), .int .i64 (x / 65536 % 16), .int .i64 0, .int .i64 (x % 65536)]] wx fun e w' => e = .returned (.bool (rightB (x / 16777216) (x / 1048576 % 16) (x / 65536 % 16) 0 (x % 65536))) ∧ Below wx.heap.size wx w') := fun wx => rright_any _ _ _ _ _ wx
  generalize rightB (x / 16777216) (x / 1048576 % 16) (x / 65536 % 16) 0 (x % 65536) = q at *
  cases q
  · rw [if_neg (by decide)]
    go_enter Tryz.func13, Tryz.ntmps13
    go_wp2_with (first
      | (go_at_call 24; refine (far_any _ _).mono ?_; rintro e w' ⟨rfl, rfl⟩; rw [hfar])
      | (go_at_call 26; refine (three_any _ _).mono ?_; rintro e w' ⟨rfl, rfl⟩; rw [hthree])
      | (go_at_call 27; refine (near_any _ _).mono ?_; rintro e w' ⟨rfl, rfl⟩; rw [hnear])
      | (go_at_call 28; refine (branch_any _ _).mono ?_; rintro e w' ⟨rfl, rfl⟩; rw [hbranch]))
    refine Calls.mono (HRR.out _) ?_
    rintro e w1 ⟨rfl, hb⟩
    obtain ⟨hc1, hc2, hf1, hf2, hs⟩ := two_new hb
    have hs0 : w.heap.size < w1.heap.size := by omega
    have z0 := hc1 0 (.int .i64 0) rfl
    have z1 := hc1 1 (.int .i64 0) rfl
    have z2 := hc1 2 (.int .i64 0) rfl
    have z3 := hc1 3 (.int .i64 0) rfl
    have z4 := hc1 4 (.int .i64 0) rfl
    have y0 := hc2 0 (.int .i64 (x / 16777216)) rfl
    have y1 := hc2 1 (.int .i64 (x / 1048576 % 16)) rfl
    have y2 := hc2 2 (.int .i64 (x / 65536 % 16)) rfl
    have y3 := hc2 3 (.int .i64 0) rfl
    have y4 := hc2 4 (.int .i64 (x % 65536)) rfl
    have HB : Hid (Below w.heap.size w w1) := (((Below.refl _ _).alloc (Nat.le_refl _) _).alloc (by simp) _).trans (hb.mono (by simp; omega))
    clear hb hc1 hc2
    go_wp2
    refine bodyPost_ret (v := Value.tuple #[.agg (insV 0 0 0 0 0), .bool false]) ?_ rfl ⟨rfl, five_set' HB.out _ _ _ _ _⟩
    simp [results, Tryz.results13, go_sem, insV, z0, z1, z2, z3, z4]
  · rw [if_pos rfl]
    go_enter Tryz.func13, Tryz.ntmps13
    go_wp2_with (first
      | (go_at_call 24; refine (far_any _ _).mono ?_; rintro e w' ⟨rfl, rfl⟩; rw [hfar])
      | (go_at_call 26; refine (three_any _ _).mono ?_; rintro e w' ⟨rfl, rfl⟩; rw [hthree])
      | (go_at_call 27; refine (near_any _ _).mono ?_; rintro e w' ⟨rfl, rfl⟩; rw [hnear])
      | (go_at_call 28; refine (branch_any _ _).mono ?_; rintro e w' ⟨rfl, rfl⟩; rw [hbranch]))
    refine Calls.mono (HRR.out _) ?_
    rintro e w1 ⟨rfl, hb⟩
    obtain ⟨hc1, hc2, hf1, hf2, hs⟩ := two_new hb
    have hs0 : w.heap.size < w1.heap.size := by omega
    have z0 := hc1 0 (.int .i64 0) rfl
    have z1 := hc1 1 (.int .i64 0) rfl
    have z2 := hc1 2 (.int .i64 0) rfl
    have z3 := hc1 3 (.int .i64 0) rfl
    have z4 := hc1 4 (.int .i64 0) rfl
    have y0 := hc2 0 (.int .i64 (x / 16777216)) rfl
    have y1 := hc2 1 (.int .i64 (x / 1048576 % 16)) rfl
    have y2 := hc2 2 (.int .i64 (x / 65536 % 16)) rfl
    have y3 := hc2 3 (.int .i64 0) rfl
    have y4 := hc2 4 (.int .i64 (x % 65536)) rfl
    have HB : Hid (Below w.heap.size w w1) := (((Below.refl _ _).alloc (Nat.le_refl _) _).alloc (by simp) _).trans (hb.mono (by simp; omega))
    clear hb hc1 hc2
    go_wp2
    refine bodyPost_ret (v := Value.tuple #[.agg (insV (x / 16777216) (x / 1048576 % 16) (x / 65536 % 16) 0 (x % 65536)), .bool true]) ?_ rfl ⟨rfl, five_set' HB.out _ _ _ _ _⟩
    simp [results, Tryz.results13, go_sem, insV, z0, z1, z2, z3, z4]
open Go.ChangeShapes Go.WideShapes Go.ChangeAt Go.RowKit
set_option linter.unusedVariables false

theorem rget_long (x : Int) (w : World) (x0 : 0 ≤ x) (x1 : x < 4294967296) (hfar : farB (x / 16777216) = false) (hthree : threeB (x / 16777216) = false) (hnear : nearB (x / 16777216) = false) (hbranch : branchB (x / 16777216) = true) (hgt : 255 < x % 65536) :
    Calls Tryz.prog 13 #[.int .u32 x] w fun e w' => e = .returned (.tuple #[.agg (insV 0 0 0 0 0), .bool false]) ∧ Below w.heap.size w w' := by
  go_enter Tryz.func13, Tryz.ntmps13
  go_wp2_with (first
    | (go_at_call 24; refine (far_any _ _).mono ?_; rintro e w' ⟨rfl, rfl⟩; rw [hfar])
    | (go_at_call 26; refine (three_any _ _).mono ?_; rintro e w' ⟨rfl, rfl⟩; rw [hthree])
    | (go_at_call 27; refine (near_any _ _).mono ?_; rintro e w' ⟨rfl, rfl⟩; rw [hnear])
    | (go_at_call 28; refine (branch_any _ _).mono ?_; rintro e w' ⟨rfl, rfl⟩; rw [hbranch]))
  refine bodyPost_ret (v := Value.tuple #[.agg (insV 0 0 0 0 0), .bool false]) ?_ rfl ⟨rfl, ((Below.refl _ _).alloc (Nat.le_refl _) _).alloc (by simp) _⟩
  simp [results, Tryz.results13, go_sem, insV]

/-- What the document's own reading answers. -/
def rgetV (x : Int) : Value := if okG x = true then .tuple #[.agg (insV (gO x) (gA x) (gB x) (gC x) (gI x)), .bool true] else .tuple #[.agg (insV 0 0 0 0 0), .bool false]
theorem rget_of (x a b c i : Int) (w : World) (h : Reads x a b c i true)
    (hc : Calls Tryz.prog 13 #[.int .u32 x] w fun e w' => e = .returned (if rightB (x / 16777216) a b c i = true then .tuple #[.agg (insV (x / 16777216) a b c i), .bool true] else .tuple #[.agg (insV 0 0 0 0 0), .bool false]) ∧ Below w.heap.size w w') :
    Calls Tryz.prog 13 #[.int .u32 x] w fun e w' => e = .returned (rgetV x) ∧ Below w.heap.size w w' := by
  refine hc.mono fun e w' ⟨he, hb⟩ => ⟨?_, hb⟩
  rw [he]
  obtain ⟨h1, h2⟩ := h
  have h1' : okG x = rightB (x / 16777216) a b c i := by rw [h1, Bool.true_and]; rfl
  unfold rgetV
  by_cases g : okG x = true
  · obtain ⟨ea, eb, ec, ei⟩ := h2 g
    rw [if_pos g, if_pos (h1' ▸ g), ea, eb, ec, ei]; rfl
  · rw [if_neg g, if_neg (by rw [← h1']; exact g)]
theorem rget_all (x : Int) (w : World) (x0 : 0 ≤ x) (x1 : x < 4294967296) :
    Calls Tryz.prog 13 #[.int .u32 x] w fun e w' => e = .returned (rgetV x) ∧ Below w.heap.size w w' := by
  have hO : gO x = x / 16777216 := rfl
  have g0 : 0 ≤ x / 16777216 := by omega
  rcases (by omega : (1 ≤ gO x ∧ gO x ≤ 7) ∨ (gO x = 8 ∨ 11 ≤ gO x ∧ gO x ≤ 14) ∨ gO x = 10 ∨ (15 ≤ gO x ∧ gO x ≤ 18) ∨ gO x = 9 ∨ (gO x = 0 ∨ gO x = 22 ∨ gO x = 23) ∨ (gO x = 19 ∨ gO x = 20) ∨ (gO x = 21 ∨ gO x = 24 ∨ gO x = 25) ∨ 26 ≤ gO x) with h | h | h | h | h | h | h | h | h
  · exact rget_of x _ _ _ _ w (reads_three x x0 x1 h) (rget_three x w x0 x1 (by unfold farB; simp; omega) (by unfold threeB; simp; omega))
  · exact rget_of x _ _ _ _ w (reads_near x x0 x1 h) (rget_near x w x0 x1 (by unfold farB; simp; omega) (by unfold threeB; simp; omega) (by unfold nearB; simp; omega))
  · exact rget_of x _ _ _ _ w (reads_ori x x0 x1 h) (rget_other x w x0 x1 (by unfold farB; simp; omega) (by unfold threeB; simp; omega) (by unfold nearB; simp; omega) (by unfold branchB; simp; omega))
  · by_cases hle : x % 65536 ≤ 255
    · have hr := reads_branch x x0 x1 h
      rw [decide_eq_true hle] at hr
      exact rget_of x _ _ _ _ w hr (rget_branch x w x0 x1 (by unfold farB; simp; omega) (by unfold threeB; simp; omega) (by unfold nearB; simp; omega) (by unfold branchB; simp; omega) hle)
    · have hr := (reads_branch x x0 x1 h).1
      rw [decide_eq_false hle, Bool.false_and] at hr
      have e : rgetV x = .tuple #[.agg (insV 0 0 0 0 0), .bool false] := by unfold rgetV; rw [hr, if_neg (by decide)]
      rw [e]
      exact rget_long x w x0 x1 (by unfold farB; simp; omega) (by unfold threeB; simp; omega) (by unfold nearB; simp; omega) (by unfold branchB; simp; omega) (by omega)
  · exact rget_of x _ _ _ _ w (reads_high x x0 x1 h) (rget_other x w x0 x1 (by unfold farB; simp; omega) (by unfold threeB; simp; omega) (by unfold nearB; simp; omega) (by unfold branchB; simp; omega))
  · exact rget_of x _ _ _ _ w (reads_one x x0 x1 h) (rget_other x w x0 x1 (by unfold farB; simp; omega) (by unfold threeB; simp; omega) (by unfold nearB; simp; omega) (by unfold branchB; simp; omega))
  · exact rget_of x _ _ _ _ w (reads_far x x0 x1 h) (rget_far x w x0 x1 (by unfold farB; simp; omega) (by unfold threeB; simp; omega) (by unfold nearB; simp; omega) (by unfold branchB; simp; omega))
  · exact rget_of x _ _ _ _ w (reads_no x x0 x1 h) (rget_other x w x0 x1 (by unfold farB; simp; omega) (by unfold threeB; simp; omega) (by unfold nearB; simp; omega) (by unfold branchB; simp; omega))
  · exact rget_of x _ _ _ _ w (reads_over x _ _ _ _ h) (rget_other x w x0 x1 (by unfold farB; simp; omega) (by unfold threeB; simp; omega) (by unfold nearB; simp; omega) (by unfold branchB; simp; omega))

/-- '==' and '!=' on two instructions. -/
theorem run_eql_ins (w : World) (a0 a1 a2 a3 a4 b0 b1 b2 b3 b4 : Int) :
    (binOp .eql 38 (.agg (insV a0 a1 a2 a3 a4)) (.agg (insV b0 b1 b2 b3 b4))).run Tryz.prog w = .ok (.bool (a0 == b0 && a1 == b1 && a2 == b2 && a3 == b3 && a4 == b4)) w := by
  unfold insV
  rw [run_eql_struct]
  simp [go_sem, Tryz.underlying38, Tryz.underlying3]
  by_cases h0 : a0 = b0 <;> by_cases h1 : a1 = b1 <;> by_cases h2 : a2 = b2 <;> by_cases h3 : a3 = b3 <;> by_cases h4 : a4 = b4 <;> simp [h0, h1, h2, h3, h4]
theorem run_neq_ins (w : World) (a0 a1 a2 a3 a4 b0 b1 b2 b3 b4 : Int) :
    (binOp .neq 38 (.agg (insV a0 a1 a2 a3 a4)) (.agg (insV b0 b1 b2 b3 b4))).run Tryz.prog w = .ok (.bool (!(a0 == b0 && a1 == b1 && a2 == b2 && a3 == b3 && a4 == b4))) w := by
  unfold insV
  rw [run_neq_struct]
  simp [go_sem, Tryz.underlying38, Tryz.underlying3]
  by_cases h0 : a0 = b0 <;> by_cases h1 : a1 = b1 <;> by_cases h2 : a2 = b2 <;> by_cases h3 : a3 = b3 <;> by_cases h4 : a4 = b4 <;> simp [h0, h1, h2, h3, h4]

/-! ### awake -/
theorem put_const : putZ 8 1 0 0 (-1) = 135331839 := by decide
theorem right_const : rightB 8 1 0 0 (-1) = true := by decide
theorem ok_const : okG 335544318 = true := by decide
theorem fields_const : gO 335544318 = 19 ∧ gA 335544318 = 0 ∧ gB 335544318 = 0 ∧ gC 335544318 = 0 ∧ gI 335544318 = -2 := by decide
theorem not_const : okG 4278190080 = false := by decide
theorem right_const2 : rightB 19 0 0 0 (-2) = true := by decide
theorem put_c (w : World) (hT : Tab w) : Calls Tryz.prog 72 #[.agg #[.int .i64 8, .int .i64 1, .int .i64 0, .int .i64 0, .int .i64 (-1)]] w fun e w' => e = .returned (.tuple #[.int .u32 135331839, .int .i64 0]) ∧ Below w.heap.size w w' := by
  have := put_yes 8 1 0 0 (-1) w hT right_const
  rw [put_const] at this; exact this
theorem get_c (w : World) (hT : Tab w) : Calls Tryz.prog 55 #[.int .u32 335544318] w fun e w' => e = .returned (.tuple #[.agg #[.int .i64 19, .int .i64 0, .int .i64 0, .int .i64 0, .int .i64 (-2)], .int .i64 0]) ∧ Below w.heap.size w w' := by
  have := get_all 335544318 w (by omega) (by omega) hT
  obtain ⟨e0, e1, e2, e3, e4⟩ := fields_const
  rw [ok_const, if_pos rfl, e0, e1, e2, e3, e4] at this; exact this
theorem get_n (w : World) (hT : Tab w) : Calls Tryz.prog 55 #[.int .u32 4278190080] w fun e w' => e = .returned (.tuple #[.agg #[.int .i64 0, .int .i64 0, .int .i64 0, .int .i64 0, .int .i64 0], .int .i64 3]) ∧ Below w.heap.size w w' := by
  have := get_all 4278190080 w (by omega) (by omega) hT
  rw [not_const, if_neg (by decide)] at this; exact this
theorem right_c (w : World) (hT : Tab w) : Calls Tryz.prog 92 #[.agg #[.int .i64 19, .int .i64 0, .int .i64 0, .int .i64 0, .int .i64 (-2)]] w fun e w' => e = .returned (.bool true) ∧ Below w.heap.size w w' := by
  have := right_any 19 0 0 0 (-2) w hT
  rw [right_const2] at this; exact this
end Go.Proofs.YtnejpldbokodaaaGreatDoor
