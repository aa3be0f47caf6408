/- When two rows of numbers, two arrays of registers, are alike: exactly. -/
import Derived.Test.YtlmijnaimdknnaaFrame
import Derived.Test.YtlmijnaimdknnaaCalls
import Derived.ChangeKeysEq
import Derived.WalkSmall
import Derived.Deep.QuietTactic
import Derived.BigQuiet
namespace Go.Proofs.Ytlmijnaimdknnaa
open Go.ChangeShapes Go.WideShapes Go.ChangeAt Go.RowKit
set_option linter.unusedVariables false

/-- The first n numbers of f and g are alike. -/
def eqB (n m : Nat) (f g : Nat → Int) : Bool := decide (n = m ∧ ∀ i, i < n → f i = g i)
/-- The 16 registers are alike. -/
def regsB (r q : Nat → Int) : Bool := (List.range 16).all fun j => r j == q j
/-- 16 words, as an array's cells. -/
def regsV (r : Nat → Int) : Array Value := #[.int .u32 (r 0), .int .u32 (r 1), .int .u32 (r 2), .int .u32 (r 3), .int .u32 (r 4), .int .u32 (r 5), .int .u32 (r 6), .int .u32 (r 7), .int .u32 (r 8), .int .u32 (r 9), .int .u32 (r 10), .int .u32 (r 11), .int .u32 (r 12), .int .u32 (r 13), .int .u32 (r 14), .int .u32 (r 15)]
theorem ints_eq (w : World) (a1 a2 : Option Addr) (n m c1 c2 : Nat) (f g : Nat → Int) (hn : n ≤ 9223372036854775807) (hm : m ≤ 9223372036854775807) (h1 : RowK .i64 w a1 n f) (h2 : RowK .i64 w a2 m g) :
    Calls Try.prog 8 #[.slice a1 n c1, .slice a2 m c2] w fun e w' => e = .returned (.bool (eqB n m f g)) ∧ Below w.heap.size w w' := by
  by_cases hnm : n = m
  rotate_left
  · have e : eqB n m f g = false := by unfold eqB; exact decide_eq_false (fun h => hnm h.1)
    rw [e]
    have hq : ((n : Int) != (m : Int)) = true := by simp; omega
    have hq2 : (n != m) = true := by simp [hnm]
    clear h1 h2 e
    go_enter Try.func8, Try.ntmps8
    go_wp2
    go_ret
    exact ⟨rfl, Below.refl _ _⟩
  subst hnm
  have H1 : Hid (RowK .i64 w a1 n f) := h1
  have H2 : Hid (RowK .i64 w a2 n g) := h2
  have HE : Hid (∀ b, (b = true ↔ ∀ i, i < n → f i = g i) → eqB n n f g = b) := by
    intro b hb; unfold eqB; rw [Bool.eq_iff_iff, decide_eq_true_iff]; exact ⟨fun h => hb.2 h.2, fun h => ⟨rfl, hb.1 h⟩⟩
  generalize eqB n n f g = E at HE ⊢
  clear h1 h2
  go_enter Try.func8, Try.ntmps8
  go_wp2
  go_loopw [5] (fun i wr => ∃ k : Nat, k ≤ n ∧ i = .int .i64 k ∧ Below w.heap.size w wr ∧ ∀ j, j < k → f j = g j) (fun i _ => n - (intOf i).toNat)
  case atStart => exact ⟨0, Nat.zero_le _, rfl, Below.refl _ _, fun j hj => by omega⟩
  case round =>
    obtain ⟨k, hk, rfl, hbel, heq⟩ := hrel
    have HB : Hid (Below w.heap.size w wr) := hbel
    have HQ : Hid (∀ j, j < k → f j = g j) := heq
    clear heq
    by_cases hlt : k < n
    · obtain ⟨_, e | ⟨b1, o1, rfl, q1⟩⟩ := H1.out.later hbel
      · omega
      obtain ⟨_, e | ⟨b2, o2, rfl, q2⟩⟩ := H2.out.later hbel
      · omega
      have k1 := q1 k hlt
      have k2 := q2 k hlt
      clear q1 q2 hbel
      by_cases hfg : f k = g k
      · have HF : Hid (f k = g k) := hfg
        rw [hfg] at k1
        clear hfg
        generalize g k = x at k1 k2
        go_wp2
        go_quiet (fail)
        go_wp2
        go_roundw
        case rel =>
          refine ⟨k + 1, by omega, by go_num, below_drewN HB.out _, fun j hj => ?_⟩
          by_cases e : j = k
          · subst e; exact HF.out
          · exact HQ.out j (by omega)
        case measure => simp [intOf]; omega
      · have hq : (f k != g k) = true := by simpa using hfg
        have e : E = false := HE.out false ⟨fun h => by simp at h, fun h => absurd (h k hlt) hfg⟩
        subst e
        clear hfg
        generalize f k = x at k1 hq
        generalize g k = z at k2 hq
        go_wp2
        go_quiet (fail)
        go_wp2
        go_ret
        exact ⟨rfl, below_drewN HB.out _⟩
    · obtain rfl : k = n := by omega
      have e : E = true := HE.out true ⟨fun _ => HQ.out, fun _ => rfl⟩
      subst e
      clear hbel
      go_wp2
      go_ret
      exact ⟨rfl, HB.out⟩
end Go.Proofs.Ytlmijnaimdknnaa
