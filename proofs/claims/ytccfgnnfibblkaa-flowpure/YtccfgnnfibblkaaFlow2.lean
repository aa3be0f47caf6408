/- What package flow returns besides: kinds, what is written, falls, contraries: one contract a function. -/
import Derived.Test.YtccfgnnfibblkaaFlow
namespace Go.Proofs.Ytccfgnnfibblkaa
open Go.ChangeShapes Go.WideShapes Go.ChangeAt Go.RowKit Go.Sort
set_option linter.unusedVariables false

/-- An instruction's kind. -/
def kindZ (op : Int) : Int := if 1 ≤ op ∧ op ≤ 10 ∨ op = 24 then 0 else if 11 ≤ op ∧ op ≤ 14 ∨ op = 22 ∨ op = 23 then 1 else if 15 ≤ op ∧ op ≤ 18 then 2 else if op = 19 then 3 else if op = 20 then 4 else 5
/-- What it writes. -/
def writesZ (op a : Int) : Int := if a ≠ 0 ∧ (1 ≤ op ∧ op ≤ 11 ∨ op = 13 ∨ op = 22) then a else -1
/-- A branch's contrary. -/
def flipZ (op : Int) : Int := if op = 15 then 16 else if op = 16 then 15 else if op = 17 then 18 else if op = 18 then 17 else -1
/-- Does it fall? -/
def fallsB (op : Int) : Bool := decide (kindZ op ≠ 3 ∧ kindZ op ≠ 5)
theorem ops26 {op : Int} (h0 : 0 ≤ op) (h1 : op < 26) : op = 0 ∨ op = 1 ∨ op = 2 ∨ op = 3 ∨ op = 4 ∨ op = 5 ∨ op = 6 ∨ op = 7 ∨ op = 8 ∨ op = 9 ∨ op = 10 ∨ op = 11 ∨ op = 12 ∨ op = 13 ∨ op = 14 ∨ op = 15 ∨ op = 16 ∨ op = 17 ∨ op = 18 ∨ op = 19 ∨ op = 20 ∨ op = 21 ∨ op = 22 ∨ op = 23 ∨ op = 24 ∨ op = 25 := by omega
set_option maxHeartbeats 4000000 in
theorem kind_any (op a b c imm : Int) (w : World) (h0 : 0 ≤ op) (h1 : op < 26) : Calls Try.prog 11 #[.agg #[.int .i64 op, .int .i64 a, .int .i64 b, .int .i64 c, .int .i64 imm]] w fun e w' => e = .returned (.int .i64 (kindZ op)) ∧ Below w.heap.size w w' := by
  rcases ops26 h0 h1 with rfl | rfl | rfl | rfl | rfl | rfl | rfl | rfl | rfl | rfl | rfl | rfl | rfl | rfl | rfl | rfl | rfl | rfl | rfl | rfl | rfl | rfl | rfl | rfl | rfl | rfl
  all_goals
    go_enter Try.func11, Try.ntmps11
    go_wp2
    go_ret
    exact ⟨rfl, (Below.refl _ _).alloc (Nat.le_refl _) _⟩
set_option maxHeartbeats 4000000 in
theorem writes_any (op a b c imm : Int) (w : World) (h0 : 0 ≤ op) (h1 : op < 26) : Calls Try.prog 12 #[.agg #[.int .i64 op, .int .i64 a, .int .i64 b, .int .i64 c, .int .i64 imm]] w fun e w' => e = .returned (.int .i64 (writesZ op a)) ∧ Below w.heap.size w w' := by
  by_cases ha : a = 0
  · subst ha
    rcases ops26 h0 h1 with rfl | rfl | rfl | rfl | rfl | rfl | rfl | rfl | rfl | rfl | rfl | rfl | rfl | rfl | rfl | rfl | rfl | rfl | rfl | rfl | rfl | rfl | rfl | rfl | rfl | rfl
    all_goals
      go_enter Try.func12, Try.ntmps12
      go_wp2
      go_ret
      exact ⟨rfl, (Below.refl _ _).alloc (Nat.le_refl _) _⟩
  · have hn : (a != 0) = true := by simpa using ha
    have hz : writesZ op a = if 1 ≤ op ∧ op ≤ 11 ∨ op = 13 ∨ op = 22 then a else -1 := by unfold writesZ; simp [ha]
    rw [hz]; clear hz
    rcases ops26 h0 h1 with rfl | rfl | rfl | rfl | rfl | rfl | rfl | rfl | rfl | rfl | rfl | rfl | rfl | rfl | rfl | rfl | rfl | rfl | rfl | rfl | rfl | rfl | rfl | rfl | rfl | rfl
    all_goals
      go_enter Try.func12, Try.ntmps12
      go_wp2
      go_ret
      exact ⟨rfl, (Below.refl _ _).alloc (Nat.le_refl _) _⟩
theorem falls_any (op a b c imm : Int) (w : World) (h0 : 0 ≤ op) (h1 : op < 26) : Calls Try.prog 17 #[.agg #[.int .i64 op, .int .i64 a, .int .i64 b, .int .i64 c, .int .i64 imm]] w fun e w' => e = .returned (.bool (fallsB op)) ∧ Below w.heap.size w w' := by
  have hk : ∀ W, Calls Try.prog 11 #[.agg #[.int .i64 op, .int .i64 a, .int .i64 b, .int .i64 c, .int .i64 imm]] W fun e w' => e = .returned (.int .i64 (kindZ op)) ∧ Below W.heap.size W w' := fun W => kind_any op a b c imm W h0 h1
  have hf : fallsB op = (kindZ op != 3 && kindZ op != 5) := by unfold fallsB; rw [Bool.eq_iff_iff]; simp
  rw [hf]
  clear hf
  have HK : Hid (∀ W, Calls Try.prog 11 #[.agg #[.int .i64 op, .int .i64 a, .int .i64 b, .int .i64 c, .int .i64 imm]] W fun e w' => e = .returned (.int .i64 (kindZ op)) ∧ Below W.heap.size W w') := hk
  clear hk
  generalize kindZ op = k at HK ⊢
  go_enter Try.func17, Try.ntmps17
  go_wp2_with (go_at_call 11; refine (HK.out _).mono ?_; rintro e w1 ⟨rfl, hb⟩)
  all_goals
    go_ret
    exact ⟨by simp_all, ((Below.refl _ w).alloc (Nat.le_refl _) _).trans (hb.mono (by simp))⟩
theorem flip_any (op : Int) (w : World) : Calls Try.prog 18 #[.int .i64 op] w fun e w' => e = .returned (.int .i64 (flipZ op)) ∧ w' = w := by
  rcases (by omega : op = 15 ∨ op = 16 ∨ op = 17 ∨ op = 18 ∨ (op ≠ 15 ∧ op ≠ 16 ∧ op ≠ 17 ∧ op ≠ 18)) with rfl | rfl | rfl | rfl | ⟨n1, n2, n3, n4⟩
  · go_enter Try.func18, Try.ntmps18
    go_wp2
    go_ret
    exact ⟨rfl, rfl⟩
  · go_enter Try.func18, Try.ntmps18
    go_wp2
    go_ret
    exact ⟨rfl, rfl⟩
  · go_enter Try.func18, Try.ntmps18
    go_wp2
    go_ret
    exact ⟨rfl, rfl⟩
  · go_enter Try.func18, Try.ntmps18
    go_wp2
    go_ret
    exact ⟨rfl, rfl⟩
  · have hz : flipZ op = -1 := by unfold flipZ; rw [if_neg n1, if_neg n2, if_neg n3, if_neg n4]
    have m1 : (op == 15) = false := by simpa using n1
    have m2 : (op == 16) = false := by simpa using n2
    have m3 : (op == 17) = false := by simpa using n3
    have m4 : (op == 18) = false := by simpa using n4
    rw [hz]
    go_enter Try.func18, Try.ntmps18
    go_wp2
    go_ret
    exact ⟨rfl, rfl⟩
end Go.Proofs.Ytccfgnnfibblkaa
