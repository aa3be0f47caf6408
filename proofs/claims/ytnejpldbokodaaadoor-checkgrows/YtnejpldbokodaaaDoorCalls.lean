/- What each function of layer 1, and each of the document's own answers to it, returns: one contract a function. -/
import Derived.Test.YtnejpldbokodaaaDoorRows
import Derived.Test.YtnejpldbokodaaaDoorMath
import Derived.WalkKit
import Derived.WalkSpells
import Derived.ProofKit
import Derived.Below
import Derived.BigQuiet
import Derived.Deep.QuietTactic
namespace Go.Proofs.YtnejpldbokodaaaDoor
open Go.ChangeShapes Go.WideShapes Go.ChangeAt Go.RowKit

set_option linter.unusedVariables false
theorem ret_int {k : IntKind} {a b : Int} (h : a = b) : Ending.returned (.int k a) = .returned (.int k b) := by rw [h]
theorem ret_bool {a b : Bool} (h : a = b) : Ending.returned (.bool a) = .returned (.bool b) := by rw [h]

theorem sign_any (x n : Int) (w : World) (_x0 : 0 ≤ x) (_x1 : x < 4294967296) :
    Calls Tryd.prog 84 #[.int .u32 x, .int .i64 n] w fun e w' => e = .returned (.int .i64 (signZ x n)) ∧ w' = w := by
  by_cases h1 : 1 ≤ n
  · by_cases h2 : n ≤ 32
    · have H : Hid (_ = _) := sign_eq x n h1 h2
      go_enter Tryd.func84, Tryd.ntmps84
      go_wp2
      go_ret
      exact ⟨ret_int H.out, rfl⟩
    · go_enter Tryd.func84, Tryd.ntmps84
      go_wp2
      go_ret
      exact ⟨ret_int (sign_out x n (by omega)).symm, rfl⟩
  · go_enter Tryd.func84, Tryd.ntmps84
    go_wp2
    go_ret
    exact ⟨ret_int (sign_out x n (by omega)).symm, rfl⟩

theorem cut_any (x n : Int) (w : World) :
    Calls Tryd.prog 65 #[.int .i64 x, .int .i64 n] w fun e w' => e = .returned (.int .u32 (cutZ x n)) ∧ w' = w := by
  by_cases h1 : 1 ≤ n
  · by_cases h2 : n ≤ 32
    · have H : Hid (_ = _) := cut_eq x n h1 h2
      go_enter Tryd.func65, Tryd.ntmps65
      go_wp2
      go_ret
      exact ⟨ret_int H.out, rfl⟩
    · go_enter Tryd.func65, Tryd.ntmps65
      go_wp2
      go_ret
      exact ⟨ret_int (cut_out x n (by omega)).symm, rfl⟩
  · go_enter Tryd.func65, Tryd.ntmps65
    go_wp2
    go_ret
    exact ⟨ret_int (cut_out x n (by omega)).symm, rfl⟩

theorem fits_any (x n : Int) (w : World) :
    Calls Tryd.prog 99 #[.int .i64 x, .int .i64 n] w fun e w' => e = .returned (.bool (fitsB x n)) ∧ w' = w := by
  by_cases h1 : 1 ≤ n
  · by_cases h2 : n ≤ 32
    · have H : Hid (_ = _) := fits_eq x n h1 h2
      go_enter Tryd.func99, Tryd.ntmps99
      go_wp2
      · rename_i hq
        go_ret
        exact ⟨ret_bool (by rw [← H.out, hq]; rfl), rfl⟩
      · go_ret
        exact ⟨ret_bool H.out, rfl⟩
    · go_enter Tryd.func99, Tryd.ntmps99
      go_wp2
      go_ret
      exact ⟨ret_bool (fits_out x n (by omega)).symm, rfl⟩
  · go_enter Tryd.func99, Tryd.ntmps99
    go_wp2
    go_ret
    exact ⟨ret_bool (fits_out x n (by omega)).symm, rfl⟩

theorem mod_eq (x n : Int) (h0 : 1 ≤ n) : x % n = if x.tmod n < 0 then x.tmod n + n else x.tmod n := by
  rw [Int.tmod_eq_emod]
  have r0 : 0 ≤ x % n := Int.emod_nonneg _ (by omega)
  have r1 : x % n < n := Int.emod_lt_of_pos _ (by omega)
  split <;> split <;> omega
/-- The four bytes of a word, the lowest first. -/
def bytesOf (x : Int) : Array Value := #[.int .u8 (x % 256), .int .u8 (x / 256 % 256), .int .u8 (x / 65536 % 256), .int .u8 (x / 16777216)]

theorem put_any (x : Int) (w : World) (x0 : 0 ≤ x) (x1 : x < 4294967296) :
    Calls Tryd.prog 90 #[.int .u32 x] w fun e w' => e = .returned (.agg (bytesOf x)) ∧ w' = w.alloc (.cells (bytesOf x) 130) := by
  go_enter Tryd.func90, Tryd.ntmps90
  go_wp2
  simp [bodyPost, results, Tryd.results90, go_sem, bytesOf]
end Go.Proofs.YtnejpldbokodaaaDoor
