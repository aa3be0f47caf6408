/- Two rows of the same instructions are alike; awake of layer 4 returns true. -/
import Derived.Test.YtgcifbamfdahdaaAluConst
import Derived.Deep.RegionWith
import Derived.Deep.QuietTactic
import Derived.BigQuiet
import Derived.WalkSmall
namespace Go.Proofs.Ytgcifbamfdahdaa
open Go.ChangeShapes Go.WideShapes Go.ChangeAt Go.RowKit Go.Deep
set_option linter.unusedVariables false

/-- '==' and '!=' on two instructions. -/
theorem run_eql_ins (w : World) (a0 a1 a2 a3 a4 b0 b1 b2 b3 b4 : Int) :
    (binOp .eql 23 (.agg #[.int .i64 a0, .int .i64 a1, .int .i64 a2, .int .i64 a3, .int .i64 a4]) (.agg #[.int .i64 b0, .int .i64 b1, .int .i64 b2, .int .i64 b3, .int .i64 b4])).run Try.prog w = .ok (.bool (a0 == b0 && a1 == b1 && a2 == b2 && a3 == b3 && a4 == b4)) w := by
  rw [run_eql_struct]
  simp [go_sem, Try.underlying23, Try.underlying3]
  by_cases h0 : a0 = b0 <;> by_cases h1 : a1 = b1 <;> by_cases h2 : a2 = b2 <;> by_cases h3 : a3 = b3 <;> by_cases h4 : a4 = b4 <;> simp [h0, h1, h2, h3, h4]
theorem run_neq_ins (w : World) (a0 a1 a2 a3 a4 b0 b1 b2 b3 b4 : Int) :
    (binOp .neq 23 (.agg #[.int .i64 a0, .int .i64 a1, .int .i64 a2, .int .i64 a3, .int .i64 a4]) (.agg #[.int .i64 b0, .int .i64 b1, .int .i64 b2, .int .i64 b3, .int .i64 b4])).run Try.prog w = .ok (.bool (!(a0 == b0 && a1 == b1 && a2 == b2 && a3 == b3 && a4 == b4))) w := by
  rw [run_neq_struct]
  simp [go_sem, Try.underlying23, Try.underlying3]
  by_cases h0 : a0 = b0 <;> by_cases h1 : a1 = b1 <;> by_cases h2 : a2 = b2 <;> by_cases h3 : a3 = b3 <;> by_cases h4 : a4 = b4 <;> simp [h0, h1, h2, h3, h4]



set_option maxHeartbeats 1000000 in
theorem same_rows (w : World) (g1 g2 n c1 c2 : Nat) (o a b c i : Nat → Int) (hm : n ≤ 300) (h1 : RowF w g1 n o a b c i) (h2 : RowF w g2 n o a b c i) :
    Calls Try.prog 17 #[.slice (some ⟨g1, 0, none⟩) n c1, .slice (some ⟨g2, 0, none⟩) n c2] w fun e w' => e = .returned (.bool true) ∧ Below w.heap.size w w' := by
  have H1 : Hid (RowF w g1 n o a b c i) := h1
  have H2 : Hid (RowF w g2 n o a b c i) := h2
  clear h1 h2
  go_enter Try.func17, Try.ntmps17
  go_wp2
  go_loopw [5] (fun i wr => ∃ k : Nat, k ≤ n ∧ i = .int .i64 k ∧ Below w.heap.size w wr) (fun i _ => n - (intOf i).toNat)
  case atStart => exact ⟨0, Nat.zero_le _, rfl, Below.refl _ _⟩
  case round =>
    obtain ⟨k, hk, rfl, hbel⟩ := hrel
    have HB : Hid (Below w.heap.size w wr) := hbel
    clear hbel
    by_cases hlt : k < n
    · obtain ⟨a0, a1, a2, a3, a4⟩ := H1.out.later HB.out k hlt
      obtain ⟨b0, b1, b2, b3, b4⟩ := H2.out.later HB.out k hlt
      have hne := fun w => run_neq_ins w (o k) (a k) (b k) (c k) (i k) (o k) (a k) (b k) (c k) (i k)
      simp only [beq_self_eq_true, Bool.and_self, Bool.not_true] at hne
      go_wp2
      go_quiet (fail)
      go_wp2
      go_roundw
      case rel => exact ⟨k + 1, by omega, by go_num, below_drewN HB.out _⟩
      case measure => simp [intOf]; omega
    · obtain rfl : k = n := by omega
      go_wp2
      go_ret
      exact ⟨rfl, HB.out⟩
theorem same_empty (w : World) (a b : Option Addr) (c1 c2 : Nat) :
    Calls Try.prog 17 #[.slice a 0 c1, .slice b 0 c2] w fun e w' => e = .returned (.bool true) ∧ Below w.heap.size w w' := by
  go_enter Try.func17, Try.ntmps17
  go_wp2
  go_loopw [5] (fun i wr => i = .int .i64 0 ∧ Below w.heap.size w wr) (fun i _ => 0)
  case atStart => exact ⟨rfl, Below.refl _ _⟩
  case round =>
    obtain ⟨rfl, hbel⟩ := hrel
    have HB : Hid (Below w.heap.size w wr) := hbel
    clear hbel
    go_wp2
    go_ret
    exact ⟨rfl, HB.out⟩

theorem const_c (w : World) : Calls Try.prog 15 #[.int .i64 1, .int .u32 65536] w fun e w' => ∃ g cap, e = .returned (.slice (some ⟨g, 0, none⟩) 1 cap) ∧ InsAt w' g 9 1 0 0 1 ∧ Below w.heap.size w w' := by
  have hn : constN 65536 = 1 := by decide
  have h := const_any 1 65536 w (by omega) (by omega) (by omega) (by omega)
  rw [hn] at h
  refine h.mono ?_
  rintro e w' ⟨g, cap, rfl, _, hr, _, hb⟩
  exact ⟨g, cap, rfl, hr 0 (by omega), hb⟩
theorem do_less (w : World) : Calls Try.prog 11 #[.agg #[.int .i64 6, .int .i64 1, .int .i64 0, .int .i64 0, .int .i64 0], .int .u32 4294967295, .int .u32 1] w fun e w' => e = .returned (.int .u32 1) ∧ Below w.heap.size w w' := by
  have h := do_any 6 1 0 0 0 4294967295 1 w (by omega) (by omega) (by omega) (by omega) (by omega) (by omega)
  have e : doZ 6 0 4294967295 1 = 1 := by decide
  rw [e] at h; exact h
theorem do_mul (w : World) : Calls Try.prog 11 #[.agg #[.int .i64 7, .int .i64 0, .int .i64 0, .int .i64 0, .int .i64 0], .int .u32 3, .int .u32 5] w fun e w' => e = .returned (.int .u32 15) ∧ Below w.heap.size w w' := by
  have h := do_any 7 0 0 0 0 3 5 w (by omega) (by omega) (by omega) (by omega) (by omega) (by omega)
  have e : doZ 7 0 3 5 = 15 := by decide
  rw [e] at h; exact h
theorem taken_c (w : World) : Calls Try.prog 13 #[.int .i64 18, .int .u32 1, .int .u32 1] w fun e w' => e = .returned (.bool true) ∧ w' = w := by
  have h := taken_any 18 1 1 w (by omega) (by omega) (by omega) (by omega)
  have e : takenB 18 1 1 = true := by decide
  rw [e] at h; exact h
set_option maxHeartbeats 1000000 in
theorem awake_any (w : World) : Calls Try.prog 8 #[] w fun e w' => e = .returned (.bool true) ∧ Below w.heap.size w w' := by
  have heq := fun w => run_eql_ins w 9 1 0 0 1 9 1 0 0 1
  go_enter Try.func8, Try.ntmps8
  go_wp2_with (first
    | (go_at_call 15; refine (const_c _).mono ?_; rintro e w1 ⟨g, cap, rfl, Q1, hb1⟩)
    | (go_at_call_of 11 (Value.int IntKind.u32 4294967295); refine (do_less _).mono ?_; rintro e w2 ⟨rfl, hb2⟩)
    | (go_at_call 11; refine (do_mul _).mono ?_; rintro e w3 ⟨rfl, hb3⟩; have Q3 : InsAt w3 g 9 1 0 0 1 := Q1.later (bnext hb2 hb3); obtain ⟨x0, x1, x2, x3, x4⟩ := id Q3)
    | (go_at_call 13; refine (taken_c _).mono ?_; rintro e w4 ⟨rfl, rfl⟩))
  go_ret
  exact ⟨rfl, bnext (bnext hb1 hb2) hb3⟩
end Go.Proofs.Ytgcifbamfdahdaa
