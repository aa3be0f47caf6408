/- What the functions of layer 1 that read slices return: one contract a function. -/
import Derived.Test.YtlmijnaimdknnaaCalls
import Derived.WalkSmall
import Derived.Laws.BitsAllLaws
namespace Go.Proofs.Ytlmijnaimdknnaa
open Go.ChangeShapes Go.WideShapes Go.ChangeAt Go.RowKit
set_option linter.unusedVariables false
/-! ### Slices -/
/-- The number that the first k of the bytes f make, the lowest first. -/
def sumZ (f : Nat → Int) : Nat → Int
  | 0 => 0
  | k + 1 => sumZ f k + f k * 256 ^ k
theorem sum_bd (f : Nat → Int) (hf : ∀ i, 0 ≤ f i ∧ f i < 256) : ∀ k, 0 ≤ sumZ f k ∧ sumZ f k < 256 ^ k
  | 0 => ⟨by simp [sumZ], by simp [sumZ]⟩
  | k + 1 => by
    have ih := sum_bd f hf k
    have hk := hf k
    have p : (0 : Int) < 256 ^ k := Int.pow_pos (by decide)
    have e : (256 : Int) ^ (k + 1) = 256 ^ k * 256 := Int.pow_succ ..
    have l : 0 ≤ f k * 256 ^ k := Int.mul_nonneg hk.1 (by omega)
    have u : f k * 256 ^ k ≤ 255 * 256 ^ k := Int.mul_le_mul_of_nonneg_right (by omega) (by omega)
    simp only [sumZ]
    omega
theorem or_round (f : Nat → Int) (hf : ∀ i, 0 ≤ f i ∧ f i < 256) (k : Nat) (hk : k < 4) :
    bits BinOp.or IntKind.u32 (sumZ f k) (f k * 2 ^ (8 * k) % 4294967296) = sumZ f (k + 1) := by
  have b := sum_bd f hf k
  have c := hf k
  have e : (2 : Int) ^ (8 * k) = 256 ^ k := by rw [Int.pow_mul]; rfl
  have b1 := sum_bd f hf (k + 1)
  simp only [sumZ] at b1 ⊢
  rw [e]
  generalize sumZ f k = s at *
  generalize f k = x at *
  rcases (by omega : k = 0 ∨ k = 1 ∨ k = 2 ∨ k = 3) with rfl | rfl | rfl | rfl <;> simp at b b1 ⊢
  all_goals
    rw [show ∀ y : Int, (0 ≤ y → y < 4294967296 → y % 4294967296 = y) from fun y h h' => Int.emod_eq_of_lt h h'] <;> try omega
    rw [u32_or _ _ (by omega) (by omega) (by omega) (by omega)]
  · have := nat_join 0 (x.toNat) s.toNat (by omega) (by omega)
    rw [Nat.or_comm, this]; omega
  · have := nat_join 8 ((x * 256).toNat) s.toNat (by omega) (by omega)
    rw [Nat.or_comm, this]; omega
  · have := nat_join 16 ((x * 65536).toNat) s.toNat (by omega) (by omega)
    rw [Nat.or_comm, this]; omega
  · have := nat_join 24 ((x * 16777216).toNat) s.toNat (by omega) (by omega)
    rw [Nat.or_comm, this]; omega
def hiZ (g : Nat → Int) : Nat → Int
  | 0 => 0
  | j + 1 => 256 * hiZ g j + g (3 - j)
theorem hi_bd (g : Nat → Int) (hg : ∀ i, 0 ≤ g i ∧ g i < 256) (j : Nat) (hj : j ≤ 4) : 0 ≤ hiZ g j ∧ hiZ g j < 256 ^ j := by
  have g0 := hg 0; have g1 := hg 1; have g2 := hg 2; have g3 := hg 3
  rcases (by omega : j = 0 ∨ j = 1 ∨ j = 2 ∨ j = 3 ∨ j = 4) with rfl | rfl | rfl | rfl | rfl <;> simp [hiZ] <;> omega
def cutF (f : Nat → Int) (len i : Nat) : Int := if i < len then f i else 0
theorem hi_sum (f : Nat → Int) (len : Nat) : hiZ (cutF f len) 4 = sumZ f (min len 4) := by
  rcases (by omega : len = 0 ∨ len = 1 ∨ len = 2 ∨ len = 3 ∨ 4 ≤ len) with rfl | rfl | rfl | rfl | h
  · simp [hiZ, sumZ, cutF]
  · simp [hiZ, sumZ, cutF]
  · simp [hiZ, sumZ, cutF]; omega
  · simp [hiZ, sumZ, cutF]; omega
  · rw [show min len 4 = 4 by omega]
    have h0 : 0 < len := by omega
    have h1 : 1 < len := by omega
    have h2 : 2 < len := by omega
    have h3 : 3 < len := by omega
    simp [hiZ, sumZ, cutF, h0, h1, h2, h3]; omega
end Go.Proofs.Ytlmijnaimdknnaa
