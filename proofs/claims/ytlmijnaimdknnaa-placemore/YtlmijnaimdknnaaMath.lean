/- The plain arithmetic of layer 1: numbers in n bits, as Go's shifts spell them and as the document's own answer spells them. No condition. -/
import Derived.RowKit
import Derived.IntWalk
namespace Go.Proofs.Ytlmijnaimdknnaa
open Go.RowKit

/-- Is x a number in n bits? -/
def fitsB (x n : Int) : Bool := decide (1 ≤ n ∧ n ≤ 32 ∧ -(2 ^ (n.toNat - 1)) ≤ x ∧ x < 2 ^ (n.toNat - 1))
/-- x's n lowest bits. -/
def cutZ (x n : Int) : Int := if 1 ≤ n ∧ n ≤ 32 then x % 2 ^ n.toNat else 0
/-- The number in n bits that stands in w's lowest bits. -/
def signZ (w n : Int) : Int := if 1 ≤ n ∧ n ≤ 32 then (if w % 2 ^ n.toNat < 2 ^ (n.toNat - 1) then w % 2 ^ n.toNat else w % 2 ^ n.toNat - 2 ^ n.toNat) else 0

/-- The two powers that part a word: 2^n = 2 * 2^(n-1), and 2^n * 2^(32-n) = 2^32. -/
theorem pow_facts (n : Int) (h1 : 1 ≤ n) (h2 : n ≤ 32) :
    ∃ h M : Int, (2 : Int) ^ (n.toNat - 1) = h ∧ (2 : Int) ^ n.toNat = 2 * h ∧ (2 : Int) ^ (32 - n).toNat = M ∧ 1 ≤ h ∧ 1 ≤ M ∧ h * M = 2147483648 ∧ h ≤ 2147483648 := by
  obtain ⟨k, hk⟩ := Int.eq_ofNat_of_zero_le (a := n - 1) (by omega)
  have e1 : n.toNat - 1 = k := by omega
  have e2 : n.toNat = k + 1 := by omega
  have e3 : (32 - n).toNat = 31 - k := by omega
  have hk31 : k ≤ 31 := by omega
  have hm : (2 : Int) ^ k * 2 ^ (31 - k) = 2147483648 := by
    rw [← Int.pow_add, show k + (31 - k) = 31 from by omega]; decide
  have p1 : (1 : Int) ≤ 2 ^ k := Int.pow_pos (by decide)
  have p2 : (1 : Int) ≤ 2 ^ (31 - k) := Int.pow_pos (by decide)
  refine ⟨2 ^ k, 2 ^ (31 - k), by rw [e1], by rw [e2, Int.pow_succ, Int.mul_comm], by rw [e3], p1, p2, hm, ?_⟩
  have := Int.mul_le_mul_of_nonneg_left p2 (show (0 : Int) ≤ 2 ^ k by omega)
  omega

theorem sign_core (x h M : Int) (hh : 1 ≤ h) (hM : 1 ≤ M) (e : h * M = 2147483648) :
    wrap32 (x * M % 4294967296) / M = if x % (2 * h) < h then x % (2 * h) else x % (2 * h) - 2 * h := by
  have e4 : (4294967296 : Int) = 2 * h * M := by rw [Int.mul_assoc, e]; rfl
  have hx : x * M % 4294967296 = x % (2 * h) * M := by
    rw [e4, Int.mul_comm x M, Int.mul_comm (2 * h) M, Int.mul_emod_mul_of_pos _ _ (by omega), Int.mul_comm]
  have r0 : 0 ≤ x % (2 * h) := Int.emod_nonneg _ (by omega)
  have r1 : x % (2 * h) < 2 * h := Int.emod_lt_of_pos _ (by omega)
  rw [hx]
  generalize x % (2 * h) = r at *
  by_cases hr : r < h
  · have u : r * M < h * M := Int.mul_lt_mul_of_pos_right hr (by omega)
    have l : 0 ≤ r * M := Int.mul_nonneg r0 (by omega)
    rw [if_pos hr, IntWalk.wrap32_in _ (by omega), Int.mul_ediv_cancel _ (by omega)]
  · have l : h * M ≤ r * M := Int.mul_le_mul_of_nonneg_right (by omega) (by omega)
    have u : r * M < 2 * h * M := Int.mul_lt_mul_of_pos_right r1 (by omega)
    have w : wrap32 (r * M) = (r - 2 * h) * M := by
      rw [Int.sub_mul, ← e4]; unfold wrap32; omega
    rw [if_neg hr, w, Int.mul_ediv_cancel _ (by omega)]

/-- bits.Sign as its shifts spell it. -/
theorem sign_eq (x n : Int) (h1 : 1 ≤ n) (h2 : n ≤ 32) :
    wrap64 (wrap32 (x * 2 ^ (32 - n).toNat % 4294967296) / 2 ^ (32 - n).toNat) = signZ x n := by
  obtain ⟨h, M, e1, e2, e3, hh, hM, e, hl⟩ := pow_facts n h1 h2
  unfold signZ
  rw [if_pos ⟨h1, h2⟩, e1, e2, e3, sign_core x h M hh hM e]
  have r0 : 0 ≤ x % (2 * h) := Int.emod_nonneg _ (by omega)
  have r1 : x % (2 * h) < 2 * h := Int.emod_lt_of_pos _ (by omega)
  exact IntWalk.wrap64_in _ (by split <;> omega)

/-- bits.Cut as its shifts spell it. -/
theorem cut_eq (x n : Int) (h1 : 1 ≤ n) (h2 : n ≤ 32) :
    x % 4294967296 * 2 ^ (32 - n).toNat % 4294967296 / 2 ^ (32 - n).toNat = cutZ x n := by
  obtain ⟨h, M, e1, e2, e3, hh, hM, e, hl⟩ := pow_facts n h1 h2
  unfold cutZ
  rw [if_pos ⟨h1, h2⟩, e2, e3]
  have e4 : (4294967296 : Int) = 2 * h * M := by rw [Int.mul_assoc, e]; rfl
  have e5 : x % 4294967296 * M % 4294967296 = x * M % 4294967296 := by
    rw [Int.mul_emod, Int.emod_emod_of_dvd _ (Int.dvd_refl _), ← Int.mul_emod]
  rw [e5, e4, Int.mul_comm x M, Int.mul_comm (2 * h) M, Int.mul_emod_mul_of_pos _ _ (by omega), Int.mul_comm, Int.mul_ediv_cancel _ (by omega)]

/-- bits.Fits as its shift spells it. -/
theorem fits_eq (x n : Int) (h1 : 1 ≤ n) (h2 : n ≤ 32) :
    (x / 2 ^ (n.toNat - 1) == 0 || x / 2 ^ (n.toNat - 1) == -1) = fitsB x n := by
  obtain ⟨h, M, e1, e2, e3, hh, hM, e, hl⟩ := pow_facts n h1 h2
  unfold fitsB
  rw [e1, Bool.eq_iff_iff]
  have d := Int.mul_ediv_add_emod x h
  have r0 : 0 ≤ x % h := Int.emod_nonneg _ (by omega)
  have r1 : x % h < h := Int.emod_lt_of_pos _ (by omega)
  simp only [Bool.or_eq_true, beq_iff_eq, decide_eq_true_eq]
  generalize x / h = q at *
  generalize x % h = r at *
  constructor
  · rintro (rfl | rfl)
    · exact ⟨h1, h2, by omega, by omega⟩
    · refine ⟨h1, h2, ?_, ?_⟩ <;> rw [← d] <;> omega
  · rintro ⟨_, _, l, u⟩
    by_cases q1 : 1 ≤ q
    · have := Int.mul_le_mul_of_nonneg_left q1 (show (0 : Int) ≤ h by omega); omega
    · by_cases q2 : q ≤ -2
      · have := Int.mul_le_mul_of_nonneg_left q2 (show (0 : Int) ≤ h by omega); omega
      · omega

theorem fits_out (x n : Int) (h : ¬ (1 ≤ n ∧ n ≤ 32)) : fitsB x n = false := by
  unfold fitsB; simp; omega
theorem cut_out (x n : Int) (h : ¬ (1 ≤ n ∧ n ≤ 32)) : cutZ x n = 0 := by unfold cutZ; rw [if_neg h]
theorem sign_out (x n : Int) (h : ¬ (1 ≤ n ∧ n ≤ 32)) : signZ x n = 0 := by unfold signZ; rw [if_neg h]

theorem cut_bd (x n : Int) : 0 ≤ cutZ x n ∧ cutZ x n < 4294967296 := by
  unfold cutZ; split
  · rename_i hn
    obtain ⟨h, M, e1, e2, e3, hh, hM, e, hl⟩ := pow_facts n hn.1 hn.2
    rw [e2]
    have r0 : 0 ≤ x % (2 * h) := Int.emod_nonneg _ (by omega)
    have r1 : x % (2 * h) < 2 * h := Int.emod_lt_of_pos _ (by omega)
    omega
  · omega
theorem sign_bd (x n : Int) : -2147483648 ≤ signZ x n ∧ signZ x n ≤ 2147483647 := by
  unfold signZ; split
  · rename_i hn
    obtain ⟨h, M, e1, e2, e3, hh, hM, e, hl⟩ := pow_facts n hn.1 hn.2
    rw [e1, e2]
    have r0 : 0 ≤ x % (2 * h) := Int.emod_nonneg _ (by omega)
    have r1 : x % (2 * h) < 2 * h := Int.emod_lt_of_pos _ (by omega)
    split <;> omega
  · omega
/-- What is read of n bits fits them. -/
theorem fits_sign (w n : Int) (h1 : 1 ≤ n) (h2 : n ≤ 32) : fitsB (signZ w n) n = true := by
  obtain ⟨h, M, e1, e2, e3, hh, hM, e, hl⟩ := pow_facts n h1 h2
  unfold fitsB signZ
  rw [if_pos ⟨h1, h2⟩, e1, e2]
  have r0 : 0 ≤ w % (2 * h) := Int.emod_nonneg _ (by omega)
  have r1 : w % (2 * h) < 2 * h := Int.emod_lt_of_pos _ (by omega)
  simp only [decide_eq_true_eq]
  split <;> omega
/-- What fits is cut and read as it was. -/
theorem sign_cut (x n : Int) (h : fitsB x n = true) : signZ (cutZ x n) n = x := by
  unfold fitsB at h
  simp only [decide_eq_true_eq] at h
  obtain ⟨h1, h2, l, u⟩ := h
  obtain ⟨h, M, e1, e2, e3, hh, hM, e, hl⟩ := pow_facts n h1 h2
  rw [e1] at l u
  unfold signZ cutZ
  simp only [if_pos (And.intro h1 h2)]
  rw [e1, e2, Int.emod_emod_of_dvd _ (Int.dvd_refl _)]
  by_cases hx : 0 ≤ x
  · rw [Int.emod_eq_of_lt hx (by omega), if_pos (by omega)]
  · have : x % (2 * h) = x + 2 * h := by
      rw [← Int.add_emod_right, Int.emod_eq_of_lt (by omega) (by omega)]
    rw [this, if_neg (by omega)]; omega
theorem cut_add (x n : Int) (h1 : 1 ≤ n) (h2 : n ≤ 32) : cutZ (x + 2 ^ n.toNat) n = cutZ x n := by
  unfold cutZ; rw [if_pos ⟨h1, h2⟩, if_pos ⟨h1, h2⟩, Int.add_emod_right]
theorem cut_sub (x n : Int) (h1 : 1 ≤ n) (h2 : n ≤ 32) : cutZ (x - 2 ^ n.toNat) n = cutZ x n := by
  unfold cutZ; rw [if_pos ⟨h1, h2⟩, if_pos ⟨h1, h2⟩, Int.sub_emod_right]
end Go.Proofs.Ytlmijnaimdknnaa
