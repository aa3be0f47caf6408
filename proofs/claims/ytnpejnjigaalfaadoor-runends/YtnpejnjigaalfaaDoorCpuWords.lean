/- Two rows of the same words are alike. -/
import Derived.Test.YtnpejnjigaalfaaDoorCalm
import Derived.Deep.QuietTactic
import Derived.BigQuiet
namespace Go.Proofs.YtnpejnjigaalfaaDoor
open Go.ChangeShapes Go.WideShapes Go.ChangeAt Go.RowKit
set_option linter.unusedVariables false
theorem words_same (w : World) (a1 a2 : Option Addr) (n c1 c2 : Nat) (f : Nat → Int) (hn : n ≤ 2000) (h1 : RowK .u32 w a1 n f) (h2 : RowK .u32 w a2 n f) :
    Calls Tryd.prog 18 #[.slice a1 n c1, .slice a2 n c2] w fun e w' => e = .returned (.bool true) ∧ Below w.heap.size w w' := by
  have H1 : Hid (RowK .u32 w a1 n f) := h1
  have H2 : Hid (RowK .u32 w a2 n f) := h2
  clear h1 h2
  go_enter Tryd.func18, Tryd.ntmps18
  go_wp2
  go_loopw [5] (fun i wr => ∃ k : Nat, k ≤ n ∧ i = .int .i64 k ∧ Below w.heap.size w wr) (fun i _ => n - (intOf i).toNat)
  case atStart => exact ⟨0, Nat.zero_le _, rfl, Below.refl _ _⟩
  case round =>
    obtain ⟨k, hk, rfl, hbel⟩ := hrel
    have HB : Hid (Below w.heap.size w wr) := hbel
    by_cases hlt : k < n
    · obtain ⟨_, e | ⟨b1, o1, rfl, q1⟩⟩ := H1.out.later hbel
      · omega
      obtain ⟨_, e | ⟨b2, o2, rfl, q2⟩⟩ := H2.out.later hbel
      · omega
      have k1 := q1 k hlt
      have k2 := q2 k hlt
      clear q1 q2 hbel
      generalize f k = x at k1 k2
      go_wp2
      go_quiet (fail)
      go_wp2
      go_roundw
      case rel => exact ⟨k + 1, by omega, by go_num, below_drewN HB.out _⟩
      case measure => simp [intOf]; omega
    · obtain rfl : k = n := by omega
      clear hbel
      go_wp2
      go_ret
      exact ⟨rfl, HB.out⟩
end Go.Proofs.YtnpejnjigaalfaaDoor
