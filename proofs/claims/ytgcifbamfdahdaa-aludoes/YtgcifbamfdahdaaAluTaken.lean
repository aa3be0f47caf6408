/- Whether a branch is taken, as the document's own answer says. -/
import Derived.Test.YtgcifbamfdahdaaAluRef
namespace Go.Proofs.Ytgcifbamfdahdaa
open Go.ChangeShapes Go.WideShapes Go.ChangeAt Go.RowKit
set_option linter.unusedVariables false

/-- Is a branch taken? -/
def takenB (op a b : Int) : Bool :=
  if op = 15 then decide (signZ a 32 = signZ b 32) else if op = 16 then decide (¬ signZ a 32 = signZ b 32) else if op = 17 then decide (signZ a 32 < signZ b 32) else if op = 18 then decide (signZ b 32 ≤ signZ a 32) else false
set_option maxHeartbeats 1000000 in
theorem rtaken_any (op a b : Int) (w : World) (a0 : 0 ≤ a) (a1 : a < 4294967296) (b0 : 0 ≤ b) (b1 : b < 4294967296) :
    Calls Try.prog 14 #[.int .i64 op, .int .u32 a, .int .u32 b] w fun e w' => e = .returned (.bool (takenB op a b)) ∧ w' = w := by
  have s1 := fun W => rsign_any a 32 W a0 a1
  have s2 := fun W => rsign_any b 32 W b0 b1
  have hT : takenB op a b = if op = 15 then decide (signZ a 32 = signZ b 32) else if op = 16 then decide (¬ signZ a 32 = signZ b 32) else if op = 17 then decide (signZ a 32 < signZ b 32) else if op = 18 then decide (signZ b 32 ≤ signZ a 32) else false := rfl
  rw [hT]; clear hT
  generalize signZ a 32 = x at s1 ⊢
  generalize signZ b 32 = y at s2 ⊢
  have S1 : Hid _ := s1
  have S2 : Hid _ := s2
  clear s1 s2
  rcases (by omega : op = 15 ∨ op = 16 ∨ op = 17 ∨ op = 18 ∨ (op ≠ 15 ∧ op ≠ 16 ∧ op ≠ 17 ∧ op ≠ 18)) with rfl | rfl | rfl | rfl | ⟨n1, n2, n3, n4⟩
  rotate_left 4
  · have m1 : (op == 15) = false := by simpa using n1
    have m2 : (op == 16) = false := by simpa using n2
    have m3 : (op == 17) = false := by simpa using n3
    have m4 : (op == 18) = false := by simpa using n4
    rw [if_neg n1, if_neg n2, if_neg n3, if_neg n4]
    clear n1 n2 n3 n4
    go_enter Try.func14, Try.ntmps14
    go_wp2_with (first
      | (go_at_call_of 27 (Value.int IntKind.u32 a); refine (S1.out _).mono ?_; rintro e w' ⟨rfl, rfl⟩)
      | (go_at_call_of 27 (Value.int IntKind.u32 b); refine (S2.out _).mono ?_; rintro e w' ⟨rfl, rfl⟩))
    go_ret
    exact ⟨rfl, rfl⟩
  all_goals
    go_enter Try.func14, Try.ntmps14
    go_wp2_with (first
      | (go_at_call_of 27 (Value.int IntKind.u32 a); refine (S1.out _).mono ?_; rintro e w' ⟨rfl, rfl⟩)
      | (go_at_call_of 27 (Value.int IntKind.u32 b); refine (S2.out _).mono ?_; rintro e w' ⟨rfl, rfl⟩))
    all_goals
      go_ret
      exact ⟨ret_bool (by first | rfl | (rw [Bool.eq_iff_iff]; simp_all; done) | (rw [Bool.eq_iff_iff]; simp_all; omega)), rfl⟩
end Go.Proofs.Ytgcifbamfdahdaa
