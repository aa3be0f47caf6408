/- What each function of layer 1, and each of the document's own answers to it, returns: one contract a function. -/
import Derived.Test.YtombfnnpdamlgaaDoorRows
import Derived.Test.YtombfnnpdamlgaaDoorMath
import Derived.WalkKit
import Derived.WalkSpells
import Derived.ProofKit
import Derived.Below
import Derived.BigQuiet
import Derived.Deep.QuietTactic
namespace Go.Proofs.YtombfnnpdamlgaaDoor
open Go.ChangeShapes Go.WideShapes Go.ChangeAt Go.RowKit

set_option linter.unusedVariables false
theorem ret_int {k : IntKind} {a b : Int} (h : a = b) : Ending.returned (.int k a) = .returned (.int k b) := by rw [h]
theorem ret_bool {a b : Bool} (h : a = b) : Ending.returned (.bool a) = .returned (.bool b) := by rw [h]

theorem sign_any (x n : Int) (w : World) (_x0 : 0 ≤ x) (_x1 : x < 4294967296) :
    Calls Tryd.prog 60 #[.int .u32 x, .int .i64 n] w fun e w' => e = .returned (.int .i64 (signZ x n)) ∧ w' = w := by
  by_cases h1 : 1 ≤ n
  · by_cases h2 : n ≤ 32
    · have H : Hid (_ = _) := sign_eq x n h1 h2
      go_enter Tryd.func60, Tryd.ntmps60
      go_wp2
      go_ret
      exact ⟨ret_int H.out, rfl⟩
    · go_enter Tryd.func60, Tryd.ntmps60
      go_wp2
      go_ret
      exact ⟨ret_int (sign_out x n (by omega)).symm, rfl⟩
  · go_enter Tryd.func60, Tryd.ntmps60
    go_wp2
    go_ret
    exact ⟨ret_int (sign_out x n (by omega)).symm, rfl⟩

theorem cut_any (x n : Int) (w : World) :
    Calls Tryd.prog 51 #[.int .i64 x, .int .i64 n] w fun e w' => e = .returned (.int .u32 (cutZ x n)) ∧ w' = w := by
  by_cases h1 : 1 ≤ n
  · by_cases h2 : n ≤ 32
    · have H : Hid (_ = _) := cut_eq x n h1 h2
      go_enter Tryd.func51, Tryd.ntmps51
      go_wp2
      go_ret
      exact ⟨ret_int H.out, rfl⟩
    · go_enter Tryd.func51, Tryd.ntmps51
      go_wp2
      go_ret
      exact ⟨ret_int (cut_out x n (by omega)).symm, rfl⟩
  · go_enter Tryd.func51, Tryd.ntmps51
    go_wp2
    go_ret
    exact ⟨ret_int (cut_out x n (by omega)).symm, rfl⟩

theorem fits_any (x n : Int) (w : World) :
    Calls Tryd.prog 61 #[.int .i64 x, .int .i64 n] w fun e w' => e = .returned (.bool (fitsB x n)) ∧ w' = w := by
  by_cases h1 : 1 ≤ n
  · by_cases h2 : n ≤ 32
    · have H : Hid (_ = _) := fits_eq x n h1 h2
      go_enter Tryd.func61, Tryd.ntmps61
      go_wp2
      · rename_i hq
        go_ret
        exact ⟨ret_bool (by rw [← H.out, hq]; rfl), rfl⟩
      · go_ret
        exact ⟨ret_bool H.out, rfl⟩
    · go_enter Tryd.func61, Tryd.ntmps61
      go_wp2
      go_ret
      exact ⟨ret_bool (fits_out x n (by omega)).symm, rfl⟩
  · go_enter Tryd.func61, Tryd.ntmps61
    go_wp2
    go_ret
    exact ⟨ret_bool (fits_out x n (by omega)).symm, rfl⟩

/-! ### The document's own answers -/

theorem power_any (n : Int) (w : World) (h0 : 0 ≤ n) (h1 : n ≤ 62) :
    Calls Tryd.prog 45 #[.int .i64 n] w fun e w' => e = .returned (.int .i64 (2 ^ n.toNat)) ∧ w' = w := by
  obtain ⟨m, rfl⟩ := Int.eq_ofNat_of_zero_le h0
  go_enter Tryd.func45, Tryd.ntmps45
  go_wp2
  go_loop [3, 4] (fun x i => ∃ k : Nat, k ≤ m ∧ i = .int .i64 k ∧ x = .int .i64 (2 ^ k)) (fun _ i => m - (intOf i).toNat)
  case atStart => exact ⟨0, Nat.zero_le _, rfl, rfl⟩
  case round =>
    obtain ⟨k, hk, rfl, rfl⟩ := hrel
    by_cases hlt : k < m
    · obtain ⟨q, H, q0, q1⟩ : ∃ q : Int, Hid ((2 : Int) ^ k = q) ∧ 0 ≤ q ∧ q ≤ 4611686018427387903 := by
        refine ⟨_, rfl, Int.pow_nonneg (by decide), ?_⟩
        have h2 : 2 ^ k ≤ 2 ^ 61 := Nat.pow_le_pow_right (by decide) (show k ≤ 61 by omega)
        have e : ((2 ^ k : Nat) : Int) = 2 ^ k := by simp
        have e1 : 2 ^ 61 = 2305843009213693952 := by decide
        omega
      rw [H.out]
      go_wp2
      go_round
      case rel => exact ⟨k + 1, by omega, by go_num, by rw [Int.pow_succ, H.out]; go_num⟩
      case measure => simp [intOf]; omega
    · obtain rfl : k = m := by omega
      go_wp2
      go_ret
      exact ⟨rfl, rfl⟩

theorem mod_eq (x n : Int) (h0 : 1 ≤ n) : x % n = if x.tmod n < 0 then x.tmod n + n else x.tmod n := by
  rw [Int.tmod_eq_emod]
  have r0 : 0 ≤ x % n := Int.emod_nonneg _ (by omega)
  have r1 : x % n < n := Int.emod_lt_of_pos _ (by omega)
  split <;> split <;> omega
theorem mod_any (x n : Int) (w : World) (h0 : 1 ≤ n) (h1 : n ≤ 4294967296) :
    Calls Tryd.prog 52 #[.int .i64 x, .int .i64 n] w fun e w' => e = .returned (.int .i64 (x % n)) ∧ w' = w := by
  have H : Hid (_ = _) := mod_eq x n h0
  have r1 := Int.tmod_lt_of_pos x (show 0 < n by omega)
  have r2 : -n < x.tmod n := by have := Int.lt_tmod_of_pos x (show 0 < n by omega); omega
  go_enter Tryd.func52, Tryd.ntmps52
  go_wp2
  · rename_i hc
    go_ret
    exact ⟨ret_int (by rw [H.out, if_pos hc]), rfl⟩
  · rename_i hc
    go_ret
    exact ⟨ret_int (by rw [H.out, if_neg (by omega)]), rfl⟩

/-- The four bytes of a word, the lowest first. -/
def bytesOf (x : Int) : Array Value := #[.int .u8 (x % 256), .int .u8 (x / 256 % 256), .int .u8 (x / 65536 % 256), .int .u8 (x / 16777216)]

theorem put_any (x : Int) (w : World) (x0 : 0 ≤ x) (x1 : x < 4294967296) :
    Calls Tryd.prog 30 #[.int .u32 x] w fun e w' => e = .returned (.agg (bytesOf x)) ∧ w' = w.alloc (.cells (bytesOf x) 70) := by
  go_enter Tryd.func30, Tryd.ntmps30
  go_wp2
  simp [bodyPost, results, Tryd.results30, go_sem, bytesOf]
theorem rput_any (x : Int) (w : World) (x0 : 0 ≤ x) (x1 : x < 4294967296) :
    Calls Tryd.prog 31 #[.int .u32 x] w fun e w' => e = .returned (.slice (some ⟨w.heap.size, 0, none⟩) 4 4) ∧ w' = w.alloc (.cells (bytesOf x) 5) := by
  go_enter Tryd.func31, Tryd.ntmps31
  go_wp2
  go_ret
  exact ⟨rfl, rfl⟩

theorem up_in (x a : Int) (w : World) (x0 : 0 ≤ x) (x1 : x ≤ 1099511627776) (a0 : 1 ≤ a) (a1 : a ≤ 1048576) :
    Calls Tryd.prog 41 #[.int .i64 x, .int .i64 a] w fun e w' => e = .returned (.int .i64 (x + a - 1 - (x + a - 1) % a)) ∧ w' = w := by
  have r0 : 0 ≤ (x + a - 1) % a := Int.emod_nonneg _ (by omega)
  have r1 : (x + a - 1) % a < a := Int.emod_lt_of_pos _ (by omega)
  go_enter Tryd.func41, Tryd.ntmps41
  go_wp2
  go_ret
  exact ⟨rfl, rfl⟩

theorem rcut_any (x n : Int) (w : World) :
    Calls Tryd.prog 44 #[.int .i64 x, .int .i64 n] w fun e w' => e = .returned (.int .u32 (cutZ x n)) ∧ w' = w := by
  by_cases h1 : 1 ≤ n
  · by_cases h2 : n ≤ 32
    · obtain ⟨h, M, e1, e2, e3, hh, hM, e, hl⟩ := pow_facts n h1 h2
      have H2 : Hid (_ = _) := e2
      have H3 : Hid (cutZ x n = x % (2 * h)) := by unfold cutZ Hid; rw [if_pos ⟨h1, h2⟩, e2]
      have r0 : 0 ≤ x % (2 * h) := Int.emod_nonneg _ (by omega)
      have r1 : x % (2 * h) < 2 * h := Int.emod_lt_of_pos _ (by omega)
      clear e1 e2 e3 e
      go_enter Tryd.func44, Tryd.ntmps44
      go_wp2_with (first | (go_at_call 45; refine (power_any _ _ (by omega) (by omega)).mono ?_; rintro e w' ⟨rfl, rfl⟩; rw [H2.out]) | (go_at_call 52; refine (mod_any _ _ _ (by omega) (by omega)).mono ?_; rintro e w' ⟨rfl, rfl⟩))
      go_ret
      exact ⟨ret_int (by rw [H3.out]), rfl⟩
    · go_enter Tryd.func44, Tryd.ntmps44
      go_wp2
      go_ret
      exact ⟨ret_int (cut_out x n (by omega)).symm, rfl⟩
  · go_enter Tryd.func44, Tryd.ntmps44
    go_wp2
    go_ret
    exact ⟨ret_int (cut_out x n (by omega)).symm, rfl⟩

theorem rsign_any (x n : Int) (w : World) (x0 : 0 ≤ x) (x1 : x < 4294967296) :
    Calls Tryd.prog 33 #[.int .u32 x, .int .i64 n] w fun e w' => e = .returned (.int .i64 (signZ x n)) ∧ w' = w := by
  by_cases h1 : 1 ≤ n
  · by_cases h2 : n ≤ 32
    · obtain ⟨h, M, e1, e2, e3, hh, hM, e, hl⟩ := pow_facts n h1 h2
      have H2 : Hid (_ = _) := e2
      have H3 : Hid (signZ x n = if x % (2 * h) < h then x % (2 * h) else x % (2 * h) - 2 * h) := by unfold signZ Hid; rw [if_pos ⟨h1, h2⟩, e1, e2]
      have r0 : 0 ≤ x % (2 * h) := Int.emod_nonneg _ (by omega)
      have r1 : x % (2 * h) < 2 * h := Int.emod_lt_of_pos _ (by omega)
      clear e1 e2 e3 e
      go_enter Tryd.func33, Tryd.ntmps33
      go_wp2_with (go_at_call 45; refine (power_any _ _ (by omega) (by omega)).mono ?_; rintro e w' ⟨rfl, rfl⟩; rw [H2.out])
      · rename_i hc _
        go_ret
        exact ⟨ret_int (by rw [H3.out, if_neg (by omega)]), rfl⟩
      · rename_i hc
        go_ret
        exact ⟨ret_int (by rw [H3.out, if_pos hc]), rfl⟩
    · go_enter Tryd.func33, Tryd.ntmps33
      go_wp2
      go_ret
      exact ⟨ret_int (sign_out x n (by omega)).symm, rfl⟩
  · go_enter Tryd.func33, Tryd.ntmps33
    go_wp2
    go_ret
    exact ⟨ret_int (sign_out x n (by omega)).symm, rfl⟩

end Go.Proofs.YtombfnnpdamlgaaDoor
