/- The plain arithmetic of layer 4: 'and', 'or', 'exclusive or' bit by bit, from the highest bit on. No condition. -/
import Derived.Test.YtcibifgbnpcpmaaDoorMath
namespace Go.Proofs.YtcibifgbnpcpmaaDoor
open Go.RowKit
set_option linter.unusedVariables false

/-- 0 and, 1 or, 2 turned: of whole numbers. -/
def bw (how x y : Nat) : Nat := if how = 0 then x &&& y else if how = 1 then x ||| y else x ^^^ y
/-- The same of two bits, reckoned as the document's answer reckons it. -/
def bitOf (how p q : Nat) : Nat := if how = 0 then p * q else if how = 1 then p + q - p * q else (p + q) % 2
theorem bw_div (how x y : Nat) : bw how x y / 2 = bw how (x / 2) (y / 2) := by
  unfold bw
  repeat' split
  · exact Nat.and_div_two
  · exact Nat.or_div_two
  · exact Nat.xor_div_two
theorem bw_mod (how x y : Nat) : bw how x y % 2 = bitOf how (x % 2) (y % 2) := by
  have k : ∀ p q : Nat, p < 2 → q < 2 → bw how p q % 2 = bitOf how p q := by
    intro p q hp hq
    unfold bw bitOf
    rcases (by omega : p = 0 ∨ p = 1) with rfl | rfl <;> rcases (by omega : q = 0 ∨ q = 1) with rfl | rfl <;> (repeat' split) <;> rfl
  rw [← k _ _ (Nat.mod_lt _ (by omega)) (Nat.mod_lt _ (by omega))]
  unfold bw
  repeat' split
  · have h := Nat.and_mod_two_pow (a := x) (b := y) (n := 1)
    rw [Nat.pow_one] at h
    rw [← h, Nat.mod_mod]
  · have h := Nat.or_mod_two_pow (a := x) (b := y) (n := 1)
    rw [Nat.pow_one] at h
    rw [← h, Nat.mod_mod]
  · have h := Nat.xor_mod_two_pow (a := x) (b := y) (n := 1)
    rw [Nat.pow_one] at h
    rw [← h, Nat.mod_mod]
theorem bw_step (how b c i : Nat) : bw how (b >>> i) (c >>> i) = 2 * bw how (b >>> (i + 1)) (c >>> (i + 1)) + bitOf how ((b >>> i) % 2) ((c >>> i) % 2) := by
  have h := Nat.div_add_mod (bw how (b >>> i) (c >>> i)) 2
  rw [bw_div, bw_mod] at h
  rw [Nat.shiftRight_succ, Nat.shiftRight_succ]
  omega
theorem bw_top (how b c : Nat) (hb : b < 4294967296) (hc : c < 4294967296) : bw how (b >>> 32) (c >>> 32) = 0 := by
  have e1 : b >>> 32 = 0 := by rw [Nat.shiftRight_eq_div_pow]; omega
  have e2 : c >>> 32 = 0 := by rw [Nat.shiftRight_eq_div_pow]; omega
  rw [e1, e2]; unfold bw; repeat' split
  all_goals rfl
theorem bw_lt (how b c i : Nat) (hb : b < 4294967296) (hc : c < 4294967296) : bw how (b >>> i) (c >>> i) < 4294967296 := by
  have h1 : b >>> i < 2 ^ 32 := Nat.lt_of_le_of_lt (Nat.shiftRight_le b i) (by omega)
  have h2 : c >>> i < 2 ^ 32 := Nat.lt_of_le_of_lt (Nat.shiftRight_le c i) (by omega)
  unfold bw; repeat' split
  · exact Nat.and_lt_two_pow _ h2
  · exact Nat.or_lt_two_pow h1 h2
  · exact Nat.xor_lt_two_pow h1 h2
/-- A product of words, in halves. -/
theorem mul_halves (h l k m : Int) : (65536 * h + l) * (65536 * k + m) = l * (65536 * k + m) + h * m * 65536 + 4294967296 * (h * k) := by
  have e1 : 65536 * h * (65536 * k) = 4294967296 * (h * k) := by
    rw [Int.mul_assoc 65536 h, ← Int.mul_assoc h, Int.mul_comm h 65536, Int.mul_assoc 65536 h, ← Int.mul_assoc 65536 65536]; rfl
  have e2 : 65536 * h * m = h * m * 65536 := by rw [Int.mul_assoc, Int.mul_comm]
  rw [Int.add_mul, Int.mul_add (65536 * h), e1, e2]
  generalize l * (65536 * k + m) = a
  omega
theorem mul_word (x y : Int) : (x % 65536 * y + x / 65536 * (y % 65536) * 65536) % 4294967296 = (x * y) % 4294967296 := by
  have ex : x = 65536 * (x / 65536) + x % 65536 := by omega
  have ey : y = 65536 * (y / 65536) + y % 65536 := by omega
  have h := mul_halves (x / 65536) (x % 65536) (y / 65536) (y % 65536)
  rw [← ex, ← ey] at h
  rw [h]
  generalize x % 65536 * y + x / 65536 * (y % 65536) * 65536 = a
  generalize x / 65536 * (y / 65536) = b
  omega
end Go.Proofs.YtcibifgbnpcpmaaDoor
