/- What alu's Do and Taken return. -/
import Derived.Test.YtnpejnjigaalfaaDoorAluAll
namespace Go.Proofs.YtnpejnjigaalfaaDoor
open Go.ChangeShapes Go.WideShapes Go.ChangeAt Go.RowKit
set_option linter.unusedVariables false

theorem sign32 (x : Int) (h0 : 0 ≤ x) (h1 : x < 4294967296) : signZ x 32 = wrap32 x := by
  have e1 : (2 : Int) ^ (32 : Int).toNat = 4294967296 := rfl
  have e2 : (2 : Int) ^ ((32 : Int).toNat - 1) = 2147483648 := rfl
  unfold signZ wrap32
  rw [if_pos (by omega), e1, e2]
  split <;> omega
/-- Bit by bit, of words. -/
theorem bits_word (b c : Nat) (hb : b < 4294967296) (hc : c < 4294967296) :
    bits BinOp.and IntKind.u32 (b : Int) c = (bw 0 b c : Nat) ∧ bits BinOp.or IntKind.u32 (b : Int) c = (bw 1 b c : Nat) ∧ bits BinOp.xor IntKind.u32 (b : Int) c = (bw 2 b c : Nat) :=
  ⟨u32_and_nat b c hb hc, u32_or_nat b c hb hc, u32_xor_nat b c hb hc⟩
theorem less_any (a b : Int) (w : World) (a0 : 0 ≤ a) (a1 : a < 4294967296) (b0 : 0 ≤ b) (b1 : b < 4294967296) :
    Calls Tryd.prog 71 #[.int .u32 a, .int .u32 b] w fun e w' => e = .returned (.bool (decide (signZ a 32 < signZ b 32))) ∧ w' = w := by
  have H1 : Hid (signZ a 32 = wrap32 a) := sign32 a a0 a1
  have H2 : Hid (signZ b 32 = wrap32 b) := sign32 b b0 b1
  go_enter Tryd.func71, Tryd.ntmps71
  go_wp2
  go_ret
  exact ⟨ret_bool (by rw [H1.out, H2.out]), rfl⟩
set_option maxHeartbeats 1000000 in
theorem taken_any (op a b : Int) (w : World) (a0 : 0 ≤ a) (a1 : a < 4294967296) (b0 : 0 ≤ b) (b1 : b < 4294967296) :
    Calls Tryd.prog 68 #[.int .i64 op, .int .u32 a, .int .u32 b] w fun e w' => e = .returned (.bool (takenB op a b)) ∧ w' = w := by
  have sl : Hid (∀ W, Calls Tryd.prog 71 #[.int .u32 a, .int .u32 b] W fun e w' => e = .returned (.bool (decide (signZ a 32 < signZ b 32))) ∧ w' = W) := fun W => less_any a b W a0 a1 b0 b1
  have he : Hid ((signZ a 32 = signZ b 32) ↔ a = b) := by
    unfold Hid
    rw [sign32 a a0 a1, sign32 b b0 b1]; unfold wrap32; omega
  have hT : Hid (takenB op a b = if op = 15 then decide (signZ a 32 = signZ b 32) else if op = 16 then decide (¬ signZ a 32 = signZ b 32) else if op = 17 then decide (signZ a 32 < signZ b 32) else if op = 18 then decide (signZ b 32 ≤ signZ a 32) else false) := rfl
  generalize takenB op a b = T at hT ⊢
  generalize signZ a 32 = x at sl he hT
  generalize signZ b 32 = y at sl he hT
  rcases (by omega : op = 15 ∨ op = 16 ∨ op = 17 ∨ op = 18 ∨ (op ≠ 15 ∧ op ≠ 16 ∧ op ≠ 17 ∧ op ≠ 18)) with rfl | rfl | rfl | rfl | ⟨n1, n2, n3, n4⟩
  · go_enter Tryd.func68, Tryd.ntmps68
    go_wp2
    go_ret
    exact ⟨ret_bool (by rw [hT.out]; simp [he.out, Bool.beq_eq_decide_eq]), rfl⟩
  · go_enter Tryd.func68, Tryd.ntmps68
    go_wp2
    go_ret
    exact ⟨ret_bool (by rw [hT.out]; simp only [he.out, if_true]; rw [Bool.eq_iff_iff]; simp), rfl⟩
  · go_enter Tryd.func68, Tryd.ntmps68
    go_wp2_with (go_at_call 71; refine (sl.out _).mono ?_; rintro e w' ⟨rfl, rfl⟩)
    go_ret
    exact ⟨ret_bool (by rw [hT.out]; simp), rfl⟩
  · go_enter Tryd.func68, Tryd.ntmps68
    go_wp2_with (go_at_call 71; refine (sl.out _).mono ?_; rintro e w' ⟨rfl, rfl⟩)
    go_ret
    exact ⟨ret_bool (by rw [hT.out, Bool.eq_iff_iff]; simp), rfl⟩
  · have m1 : (op == 15) = false := by simpa using n1
    have m2 : (op == 16) = false := by simpa using n2
    have m3 : (op == 17) = false := by simpa using n3
    have m4 : (op == 18) = false := by simpa using n4
    have h := hT.out
    rw [if_neg n1, if_neg n2, if_neg n3, if_neg n4] at h
    subst h
    clear n1 n2 n3 n4 hT
    go_enter Tryd.func68, Tryd.ntmps68
    go_wp2
    go_ret
    exact ⟨rfl, rfl⟩
set_option maxRecDepth 100000 in
set_option maxHeartbeats 4000000 in
theorem do_any (op a rb rc imm : Int) (b c : Nat) (w : World) (hb : b < 4294967296) (hc : c < 4294967296) (h0 : 0 ≤ op) (h1 : op < 26) (hi0 : 8 ≤ op ∧ op ≤ 10 → -32768 ≤ imm ∧ imm ≤ 65535) (hi : op = 10 → 0 ≤ imm) :
    Calls Tryd.prog 62 #[.agg #[.int .i64 op, .int .i64 a, .int .i64 rb, .int .i64 rc, .int .i64 imm], .int .u32 b, .int .u32 c] w fun e w' => e = .returned (.int .u32 (doZ op imm b c)) ∧ Below w.heap.size w w' := by
  have sl : Hid (∀ W, Calls Tryd.prog 71 #[.int .u32 b, .int .u32 c] W fun e w' => e = .returned (.bool (decide (signZ b 32 < signZ c 32))) ∧ w' = W) := fun W => less_any b c W (by omega) (by omega) (by omega) (by omega)
  rcases (by omega : op = 0 ∨ op = 1 ∨ op = 2 ∨ op = 3 ∨ op = 4 ∨ op = 5 ∨ op = 6 ∨ op = 7 ∨ op = 8 ∨ op = 9 ∨ op = 10 ∨ 11 ≤ op) with rfl | rfl | rfl | rfl | rfl | rfl | rfl | rfl | rfl | rfl | rfl | h
  · go_enter Tryd.func62, Tryd.ntmps62
    go_wp2
    go_ret
    exact ⟨rfl, (Below.refl _ _).alloc (Nat.le_refl _) _⟩
  · go_enter Tryd.func62, Tryd.ntmps62
    go_wp2
    go_ret
    exact ⟨rfl, (Below.refl _ _).alloc (Nat.le_refl _) _⟩
  · go_enter Tryd.func62, Tryd.ntmps62
    go_wp2
    go_ret
    exact ⟨rfl, (Below.refl _ _).alloc (Nat.le_refl _) _⟩
  · go_enter Tryd.func62, Tryd.ntmps62
    go_wp2
    go_ret
    exact ⟨ret_int (bits_word b c hb hc).1, (Below.refl _ _).alloc (Nat.le_refl _) _⟩
  · go_enter Tryd.func62, Tryd.ntmps62
    go_wp2
    go_ret
    exact ⟨ret_int (bits_word b c hb hc).2.1, (Below.refl _ _).alloc (Nat.le_refl _) _⟩
  · go_enter Tryd.func62, Tryd.ntmps62
    go_wp2
    go_ret
    exact ⟨ret_int (bits_word b c hb hc).2.2, (Below.refl _ _).alloc (Nat.le_refl _) _⟩
  · have hd : Hid (doZ 6 imm b c = if signZ b 32 < signZ c 32 then 1 else 0) := by unfold doZ; rw [if_neg (by decide), if_neg (by decide), if_neg (by decide), if_neg (by decide), if_neg (by decide), if_pos rfl]; rfl
    generalize doZ 6 imm b c = D at hd ⊢
    generalize signZ b 32 = x at sl hd
    generalize signZ c 32 = y at sl hd
    by_cases h : x < y
    · have e := hd.out
      rw [if_pos h] at e; subst e; clear hd
      go_enter Tryd.func62, Tryd.ntmps62
      go_wp2_with (go_at_call 71; refine (sl.out _).mono ?_; rintro e w' ⟨rfl, rfl⟩)
      go_ret
      exact ⟨rfl, (Below.refl _ _).alloc (Nat.le_refl _) _⟩
    · have e := hd.out
      rw [if_neg h] at e; subst e; clear hd
      go_enter Tryd.func62, Tryd.ntmps62
      go_wp2_with (go_at_call 71; refine (sl.out _).mono ?_; rintro e w' ⟨rfl, rfl⟩)
      go_ret
      exact ⟨rfl, (Below.refl _ _).alloc (Nat.le_refl _) _⟩
  · go_enter Tryd.func62, Tryd.ntmps62
    go_wp2
    go_ret
    exact ⟨rfl, (Below.refl _ _).alloc (Nat.le_refl _) _⟩
  · obtain ⟨i0, i1⟩ := hi0 (by omega)
    go_enter Tryd.func62, Tryd.ntmps62
    go_wp2
    go_ret
    exact ⟨ret_int (by simp [doZ]), (Below.refl _ _).alloc (Nat.le_refl _) _⟩
  · obtain ⟨i0, i1⟩ := hi0 (by omega)
    go_enter Tryd.func62, Tryd.ntmps62
    go_wp2
    go_ret
    exact ⟨ret_int (by simp [doZ]; omega), (Below.refl _ _).alloc (Nat.le_refl _) _⟩
  · obtain ⟨i0, i1⟩ := hi0 (by omega)
    obtain ⟨n, rfl⟩ := Int.eq_ofNat_of_zero_le (hi rfl)
    go_enter Tryd.func62, Tryd.ntmps62
    go_wp2
    go_ret
    exact ⟨ret_int (bits_word b n hb (by omega)).2.1, (Below.refl _ _).alloc (Nat.le_refl _) _⟩
  · have hd : doZ op imm b c = 0 := by unfold doZ; repeat rw [if_neg (by omega)]
    rw [hd]
    have m1 : (op == 1) = false := by simp; omega
    have m2 : (op == 2) = false := by simp; omega
    have m3 : (op == 3) = false := by simp; omega
    have m4 : (op == 4) = false := by simp; omega
    have m5 : (op == 5) = false := by simp; omega
    have m6 : (op == 6) = false := by simp; omega
    have m7 : (op == 7) = false := by simp; omega
    have m8 : (op == 8) = false := by simp; omega
    have m9 : (op == 9) = false := by simp; omega
    have m10 : (op == 10) = false := by simp; omega
    go_enter Tryd.func62, Tryd.ntmps62
    go_wp2
    go_ret
    exact ⟨rfl, (Below.refl _ _).alloc (Nat.le_refl _) _⟩
end Go.Proofs.YtnpejnjigaalfaaDoor
