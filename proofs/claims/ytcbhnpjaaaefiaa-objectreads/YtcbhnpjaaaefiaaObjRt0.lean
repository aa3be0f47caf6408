/- Is a number within bounds? -/
import Derived.Test.YtcbhnpjaaaefiaaObjTk0
namespace Go.Proofs.Ytcbhnpjaaaefiaa
open Go.ChangeShapes Go.WideShapes Go.ChangeAt Go.RowKit
set_option linter.unusedVariables false
set_option linter.unusedSimpArgs false
theorem within_any (n a b : Int) (w : World) : Calls Try.prog 82 #[.int .i64 n, .int .i64 a, .int .i64 b] w fun e w' => e = .returned (.bool (decide (a ≤ n ∧ n ≤ b))) ∧ w' = w := by
  by_cases h1 : a ≤ n
  · by_cases h2 : n ≤ b
    · have e : decide (a ≤ n ∧ n ≤ b) = true := decide_eq_true ⟨h1, h2⟩
      rw [e]
      clear e
      go_enter Try.func82, Try.ntmps82
      go_wp2
      go_ret
      exact ⟨rfl, rfl⟩
    · have e : decide (a ≤ n ∧ n ≤ b) = false := decide_eq_false fun h => h2 h.2
      rw [e]
      have h2' : b < n := by omega
      clear e h2
      go_enter Try.func82, Try.ntmps82
      go_wp2
      go_ret
      exact ⟨congrArg (fun c => Ending.returned (.bool c)) (decide_eq_false (by omega)), rfl⟩
  · have e : decide (a ≤ n ∧ n ≤ b) = false := decide_eq_false fun h => h1 h.1
    rw [e]
    have h1' : n < a := by omega
    clear e h1
    go_enter Try.func82, Try.ntmps82
    go_wp2
    go_ret
    exact ⟨rfl, rfl⟩
theorem rightbind_any (n : Int) (w : World) : Calls Try.prog 79 #[.int .i64 n] w fun e w' => e = .returned (.bool (decide (1 ≤ n ∧ n ≤ 255))) ∧ w' = w := by
  have WI : Hid (∀ W, Calls Try.prog 82 #[.int .i64 n, .int .i64 1, .int .i64 255] W fun e w' => e = .returned (.bool (decide (1 ≤ n ∧ n ≤ 255))) ∧ w' = W) := fun W => within_any n 1 255 W
  generalize decide (1 ≤ n ∧ n ≤ 255) = c at WI ⊢
  go_enter Try.func79, Try.ntmps79
  go_wp2_with (go_at_call 82; refine (WI.out _).mono ?_; rintro e w1 ⟨rfl, rfl⟩)
  go_ret
  exact ⟨rfl, rfl⟩
theorem rightadd_any (n : Int) (w : World) : Calls Try.prog 99 #[.int .i64 n] w fun e w' => e = .returned (.bool (decide (-1048576 ≤ n ∧ n ≤ 1048576))) ∧ w' = w := by
  have WI : Hid (∀ W, Calls Try.prog 82 #[.int .i64 n, .int .i64 (-1048576), .int .i64 1048576] W fun e w' => e = .returned (.bool (decide (-1048576 ≤ n ∧ n ≤ 1048576))) ∧ w' = W) := fun W => within_any n _ _ W
  generalize decide (-1048576 ≤ n ∧ n ≤ 1048576) = c at WI ⊢
  go_enter Try.func99, Try.ntmps99
  go_wp2_with (go_at_call 82; refine (WI.out _).mono ?_; rintro e w1 ⟨rfl, rfl⟩)
  go_ret
  exact ⟨rfl, rfl⟩
end Go.Proofs.Ytcbhnpjaaaefiaa
