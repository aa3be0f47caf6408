/- What the document's own answers for layer 4 return: one contract a function. -/
import Derived.Test.YtgcifbamfdahdaaCalls
import Derived.Test.YtgcifbamfdahdaaAluMath
import Derived.Deep.RegionWith
namespace Go.Proofs.Ytgcifbamfdahdaa
open Go.ChangeShapes Go.WideShapes Go.ChangeAt Go.RowKit
set_option linter.unusedVariables false

theorem word_any (x : Int) (w : World) (h0 : -9223372036854775808 ≤ x) (h1 : x ≤ 9223372036854775807) :
    Calls Try.prog 25 #[.int .i64 x] w fun e w' => e = .returned (.int .u32 (x % 4294967296)) ∧ w' = w := by
  have k0 : 0 ≤ x % 4294967296 := by omega
  have k1 : x % 4294967296 < 4294967296 := by omega
  go_enter Try.func25, Try.ntmps25
  go_wp2_with (go_at_call 30; refine (mod_any _ _ _ (by omega) (by omega)).mono ?_; rintro e w' ⟨rfl, rfl⟩)
  go_ret
  exact ⟨rfl, rfl⟩
theorem shr_cast (b j : Nat) : (b : Int) / 2 ^ j = ((b >>> j : Nat) : Int) := by
  rw [Nat.shiftRight_eq_div_pow]; push_cast; rfl
set_option maxHeartbeats 1000000 in
theorem bitwise_any (b c how : Nat) (w : World) (hb : b < 4294967296) (hc : c < 4294967296) (hh : how < 3) :
    Calls Try.prog 26 #[.int .u32 b, .int .u32 c, .int .i64 how] w fun e w' => e = .returned (.int .u32 (bw how b c : Nat)) ∧ w' = w := by
  go_enter Try.func26, Try.ntmps26
  go_wp2
  go_loop [7, 8] (fun x i => ∃ k : Nat, k ≤ 32 ∧ i = .int .i64 (31 - (k : Int)) ∧ x = .int .i64 (bw how (b >>> (32 - k)) (c >>> (32 - k)) : Nat)) (fun _ i => (intOf i + 1).toNat)
  case atStart => exact ⟨0, by omega, rfl, by rw [bw_top how b c hb hc]; rfl⟩
  case round =>
    obtain ⟨k, hk, rfl, rfl⟩ := hrel
    by_cases hlt : k < 32
    · have hz : (0 : Int) ≤ 31 - (k : Int) := by omega
      have hs : 31 - k + 1 = 32 - k := by omega
      have hst := bw_step how b c (31 - k)
      rw [hs] at hst
      have hx := bw_lt how b c (32 - k) hb hc
      have e1 := shr_cast b (31 - k)
      have e2 := shr_cast c (31 - k)
      have l1 : b >>> (31 - k) < 4294967296 := Nat.lt_of_le_of_lt (Nat.shiftRight_le _ _) hb
      have l2 : c >>> (31 - k) < 4294967296 := Nat.lt_of_le_of_lt (Nat.shiftRight_le _ _) hc
      have HN : Hid (32 - (k + 1) = 31 - k) := (by omega : 32 - (k + 1) = 31 - k)
      have HP : Hid (bw how (b >>> (31 - k)) (c >>> (31 - k)) = bw how (b >>> (31 - k)) (c >>> (31 - k))) := rfl
      generalize hX : bw how (b >>> (32 - k)) (c >>> (32 - k)) = X at hst hx ⊢
      generalize hY : bw how (b >>> (31 - k)) (c >>> (31 - k)) = Y at hst
      have HY : Hid (bw how (b >>> (31 - k)) (c >>> (31 - k)) = Y) := hY
      clear hX hY HP
      generalize hp : b >>> (31 - k) = p at e1 l1 hst
      generalize hq : c >>> (31 - k) = q at e2 l2 hst
      clear hp hq hs
      have m0 : (p : Int) % 2 * ((q : Int) % 2) = ((p % 2 * (q % 2) : Nat) : Int) := by push_cast; rfl
      have m1 : p % 2 * (q % 2) < 2 := by
        rcases (by omega : p % 2 = 0 ∨ p % 2 = 1) with h | h <;> rcases (by omega : q % 2 = 0 ∨ q % 2 = 1) with g | g <;> rw [h, g] <;> omega
      have m2 : p % 2 * (q % 2) ≤ p % 2 + q % 2 := by
        rcases (by omega : p % 2 = 0 ∨ p % 2 = 1) with h | h <;> rcases (by omega : q % 2 = 0 ∨ q % 2 = 1) with g | g <;> rw [h, g] <;> omega
      generalize hm : p % 2 * (q % 2) = m at m0 m1 m2
      have HM : Hid (p % 2 * (q % 2) = m) := hm
      have HS : Hid (Y = 2 * X + bitOf how (p % 2) (q % 2)) := hst
      clear hm hst
      rcases (by omega : how = 0 ∨ how = 1 ∨ how = 2) with rfl | rfl | rfl
      all_goals
        have hv := HS.out
        simp only [bitOf, HM.out] at hv
        have HV : Hid _ := hv
        clear hv
        go_wp2
        go_round
        case rel =>
          refine ⟨k + 1, by omega, by go_num, ?_⟩
          rw [HN.out, HY.out]
          have h := HV.out
          simp at h
          congr 1
          omega
        case measure => simp [intOf]; omega
    · obtain rfl : k = 32 := by omega
      go_wp2
      go_ret
      have hl : bw how b c < 4294967296 := by simpa using bw_lt how b c 0 hb hc
      exact ⟨by simp; omega, rfl⟩
end Go.Proofs.Ytgcifbamfdahdaa
