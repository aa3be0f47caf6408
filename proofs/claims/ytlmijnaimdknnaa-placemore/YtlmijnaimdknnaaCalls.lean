/- What each function of layer 1, and each of the document's own answers to it, returns: one contract a function. -/
import Derived.Test.YtlmijnaimdknnaaRows
import Derived.Test.YtlmijnaimdknnaaMath
import Derived.WalkKit
import Derived.WalkSpells
import Derived.ProofKit
import Derived.Below
import Derived.BigQuiet
import Derived.Deep.QuietTactic
namespace Go.Proofs.Ytlmijnaimdknnaa
open Go.ChangeShapes Go.WideShapes Go.ChangeAt Go.RowKit

set_option linter.unusedVariables false
theorem ret_int {k : IntKind} {a b : Int} (h : a = b) : Ending.returned (.int k a) = .returned (.int k b) := by rw [h]
theorem ret_bool {a b : Bool} (h : a = b) : Ending.returned (.bool a) = .returned (.bool b) := by rw [h]

theorem mod_eq (x n : Int) (h0 : 1 ≤ n) : x % n = if x.tmod n < 0 then x.tmod n + n else x.tmod n := by
  rw [Int.tmod_eq_emod]
  have r0 : 0 ≤ x % n := Int.emod_nonneg _ (by omega)
  have r1 : x % n < n := Int.emod_lt_of_pos _ (by omega)
  split <;> split <;> omega
/-- The four bytes of a word, the lowest first. -/
def bytesOf (x : Int) : Array Value := #[.int .u8 (x % 256), .int .u8 (x / 256 % 256), .int .u8 (x / 65536 % 256), .int .u8 (x / 16777216)]

theorem up_in (x a : Int) (w : World) (x0 : 0 ≤ x) (x1 : x ≤ 1099511627776) (a0 : 1 ≤ a) (a1 : a ≤ 1048576) :
    Calls Try.prog 15 #[.int .i64 x, .int .i64 a] w fun e w' => e = .returned (.int .i64 (x + a - 1 - (x + a - 1) % a)) ∧ w' = w := by
  have r0 : 0 ≤ (x + a - 1) % a := Int.emod_nonneg _ (by omega)
  have r1 : (x + a - 1) % a < a := Int.emod_lt_of_pos _ (by omega)
  go_enter Try.func15, Try.ntmps15
  go_wp2
  go_ret
  exact ⟨rfl, rfl⟩

end Go.Proofs.Ytlmijnaimdknnaa
