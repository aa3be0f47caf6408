/- What the document's own answers for layer 3 return: one contract a function; that two lists of the same numbers are the same. -/
import Derived.Test.YtccfgnnfibblkaaFlow2
import Derived.Deep.QuietTactic
import Derived.BigQuiet
namespace Go.Proofs.Ytccfgnnfibblkaa
open Go.ChangeShapes Go.WideShapes Go.ChangeAt Go.RowKit Go.Sort
set_option linter.unusedVariables false

/-- Does it read the register r? -/
def refB (op a b c r : Int) : Bool :=
  (decide (op = 0 ∨ op = 12 ∨ 14 ≤ op ∧ op ≤ 18 ∨ op = 23) && decide (a = r)) || (decide (1 ≤ op ∧ op ≤ 8 ∨ 10 ≤ op ∧ op ≤ 18) && decide (b = r)) || (decide (1 ≤ op ∧ op ≤ 7) && decide (c = r))
/-- The registers from 1 to k that it reads. -/
def refL (op a b c : Int) : Nat → List Int
  | 0 => []
  | k + 1 => refL op a b c k ++ if refB op a b c ((k : Int) + 1) = true then [(k : Int) + 1] else []
theorem refL_le (op a b c : Int) : ∀ k, (refL op a b c k).length ≤ k
  | 0 => Nat.le_refl _
  | k + 1 => by
    have := refL_le op a b c k
    simp only [refL, List.length_append]
    split <;> simp <;> omega
theorem ret_bool' {a b : Bool} (h : a = b) : Ending.returned (.bool a) = .returned (.bool b) := by rw [h]

set_option maxHeartbeats 4000000 in
theorem rkind_any (op a b c imm : Int) (w : World) (h0 : 0 ≤ op) (h1 : op < 26) : Calls Try.prog 10 #[.agg #[.int .i64 op, .int .i64 a, .int .i64 b, .int .i64 c, .int .i64 imm]] w fun e w' => e = .returned (.int .i64 (kindZ op)) ∧ Below w.heap.size w w' := by
  rcases ops26 h0 h1 with rfl | rfl | rfl | rfl | rfl | rfl | rfl | rfl | rfl | rfl | rfl | rfl | rfl | rfl | rfl | rfl | rfl | rfl | rfl | rfl | rfl | rfl | rfl | rfl | rfl | rfl
  all_goals
    go_enter Try.func10, Try.ntmps10
    go_wp2
    go_ret
    exact ⟨rfl, ((Below.refl _ _).alloc (Nat.le_refl _) _).alloc (by simp) _⟩
set_option maxHeartbeats 4000000 in
theorem rwrites_any (op a b c imm : Int) (w : World) (h0 : 0 ≤ op) (h1 : op < 26) (ha : 0 ≤ a) : Calls Try.prog 13 #[.agg #[.int .i64 op, .int .i64 a, .int .i64 b, .int .i64 c, .int .i64 imm]] w fun e w' => e = .returned (.int .i64 (writesZ op a)) ∧ Below w.heap.size w w' := by
  by_cases hz : a = 0
  · subst hz
    have hw : writesZ op 0 = -1 := by unfold writesZ; simp
    rw [hw]
    go_enter Try.func13, Try.ntmps13
    go_wp2
    go_ret
    exact ⟨rfl, (Below.refl _ _).alloc (Nat.le_refl _) _⟩
  · have hp : 0 < a := by omega
    have hw : writesZ op a = if 1 ≤ op ∧ op ≤ 11 ∨ op = 13 ∨ op = 22 then a else -1 := by unfold writesZ; simp [hz]
    rw [hw]; clear hw
    rcases ops26 h0 h1 with rfl | rfl | rfl | rfl | rfl | rfl | rfl | rfl | rfl | rfl | rfl | rfl | rfl | rfl | rfl | rfl | rfl | rfl | rfl | rfl | rfl | rfl | rfl | rfl | rfl | rfl
    all_goals
      go_enter Try.func13, Try.ntmps13
      go_wp2
      go_ret
      exact ⟨rfl, (Below.refl _ _).alloc (Nat.le_refl _) _⟩
set_option maxHeartbeats 1000000 in
theorem ints_same (w : World) (b1 b2 : Nat) (v1 v2 : Value) (L : List Int) (hL : L.length ≤ 1000) (h1 : IsInts w b1 v1 L) (h2 : IsInts w b2 v2 L) :
    Calls Try.prog 14 #[v1, v2] w fun e w' => e = .returned (.bool true) ∧ Below w.heap.size w w' := by
  obtain ⟨a1, c1, rfl, h1⟩ := h1
  obtain ⟨a2, c2, rfl, h2⟩ := h2
  generalize hn : L.length = n at *
  go_enter Try.func14, Try.ntmps14
  go_wp2
  go_loopw [5] (fun i wr => ∃ k : Nat, k ≤ n ∧ i = .int .i64 k ∧ Below w.heap.size w wr) (fun i _ => n - (intOf i).toNat)
  case atStart => exact ⟨0, Nat.zero_le _, rfl, Below.refl _ _⟩
  case round =>
    obtain ⟨k, hk, rfl, hbel⟩ := hrel
    have HB : Hid (Below w.heap.size w wr) := hbel
    clear hbel
    by_cases hlt : k < n
    · rcases h1 with e1 | ⟨g1, rfl, _, hg1, H1⟩
      · subst e1; simp at hn; omega
      rcases h2 with e2 | ⟨g2, rfl, _, hg2, H2⟩
      · subst e2; simp at hn; omega
      have k1 := (holds_later H1 HB.out hg1 k (by simp; omega)).1
      have k2 := (holds_later H2 HB.out hg2 k (by simp; omega)).1
      rw [Nat.zero_add] at k1 k2
      clear H1 H2
      generalize L.toArray[k]! = x at k1 k2
      go_wp2
      go_quiet (fail)
      go_wp2
      go_roundw
      case rel => exact ⟨k + 1, by omega, by go_num, below_drewN' HB.out _⟩
      case measure => simp [intOf]; omega
    · obtain rfl : k = n := by omega
      go_wp2
      go_ret
      exact ⟨rfl, HB.out⟩
end Go.Proofs.Ytccfgnnfibblkaa
