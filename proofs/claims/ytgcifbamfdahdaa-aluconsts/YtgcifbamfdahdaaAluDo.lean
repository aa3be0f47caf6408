/- What the document's own Do of layer 4 returns, of pure operations. -/
import Derived.Test.YtgcifbamfdahdaaAluRef
namespace Go.Proofs.Ytgcifbamfdahdaa
open Go.ChangeShapes Go.WideShapes Go.ChangeAt Go.RowKit
set_option linter.unusedVariables false

/-- What an operation writes. -/
def doZ (op imm : Int) (b c : Nat) : Int :=
  if op = 1 then ((b : Int) + c) % 4294967296 else if op = 2 then ((b : Int) - c) % 4294967296
  else if op = 3 then (bw 0 b c : Nat) else if op = 4 then (bw 1 b c : Nat) else if op = 5 then (bw 2 b c : Nat)
  else if op = 6 then (if signZ b 32 < signZ c 32 then 1 else 0)
  else if op = 7 then ((b : Int) * c) % 4294967296 else if op = 8 then ((b : Int) + imm) % 4294967296
  else if op = 9 then (imm * 65536) % 4294967296 else if op = 10 then (bw 1 b imm.toNat : Nat) else 0

set_option maxRecDepth 100000 in
set_option maxHeartbeats 4000000 in
theorem rdo_any (op a rb rc imm : Int) (b c : Nat) (w : World) (hb : b < 4294967296) (hc : c < 4294967296) (hi0 : -32768 ≤ imm) (hi1 : imm ≤ 65535) (ho : op = 1 ∨ op = 2 ∨ op = 3 ∨ op = 4 ∨ op = 5 ∨ op = 6 ∨ op = 7 ∨ op = 8 ∨ op = 9 ∨ (op = 10 ∧ 0 ≤ imm) ∨ op = 24) :
    Calls Try.prog 12 #[.agg #[.int .i64 op, .int .i64 a, .int .i64 rb, .int .i64 rc, .int .i64 imm], .int .u32 b, .int .u32 c] w fun e w' => e = .returned (.int .u32 (doZ op imm b c)) ∧ Below w.heap.size w w' := by
  have S1 : Hid (∀ W, Calls Try.prog 27 #[.int .u32 b, .int .i64 32] W fun e w' => e = .returned (.int .i64 (signZ b 32)) ∧ w' = W) := fun W => rsign_any b 32 W (by omega) (by omega)
  have S2 : Hid (∀ W, Calls Try.prog 27 #[.int .u32 c, .int .i64 32] W fun e w' => e = .returned (.int .i64 (signZ c 32)) ∧ w' = W) := fun W => rsign_any c 32 W (by omega) (by omega)
  have W1 : Hid (∀ (x : Int) (W : World), -9223372036854775808 ≤ x → x ≤ 9223372036854775807 → Calls Try.prog 25 #[.int .i64 x] W fun e w' => e = .returned (.int .u32 (x % 4294967296)) ∧ w' = W) := fun x W h0 h1 => word_any x W h0 h1
  rcases ho with rfl | rfl | rfl | rfl | rfl | rfl | rfl | rfl | rfl | ⟨rfl, hi⟩ | rfl
  · go_enter Try.func12, Try.ntmps12
    go_wp2_with (go_at_call 25; refine (W1.out _ _ (by omega) (by omega)).mono ?_; rintro e w' ⟨rfl, rfl⟩)
    go_ret
    exact ⟨rfl, (Below.refl _ _).alloc (Nat.le_refl _) _⟩
  · go_enter Try.func12, Try.ntmps12
    go_wp2_with (go_at_call 25; refine (W1.out _ _ (by omega) (by omega)).mono ?_; rintro e w' ⟨rfl, rfl⟩)
    go_ret
    exact ⟨rfl, (Below.refl _ _).alloc (Nat.le_refl _) _⟩
  · go_enter Try.func12, Try.ntmps12
    go_wp2_with (go_at_call 26; refine (bitwise_any b c 0 _ hb hc (by omega)).mono ?_; rintro e w' ⟨rfl, rfl⟩)
    go_ret
    exact ⟨rfl, (Below.refl _ _).alloc (Nat.le_refl _) _⟩
  · go_enter Try.func12, Try.ntmps12
    go_wp2_with (go_at_call 26; refine (bitwise_any b c 1 _ hb hc (by omega)).mono ?_; rintro e w' ⟨rfl, rfl⟩)
    go_ret
    exact ⟨rfl, (Below.refl _ _).alloc (Nat.le_refl _) _⟩
  · go_enter Try.func12, Try.ntmps12
    go_wp2_with (go_at_call 26; refine (bitwise_any b c 2 _ hb hc (by omega)).mono ?_; rintro e w' ⟨rfl, rfl⟩)
    go_ret
    exact ⟨rfl, (Below.refl _ _).alloc (Nat.le_refl _) _⟩
  · have hd : doZ 6 imm b c = if signZ b 32 < signZ c 32 then 1 else 0 := by unfold doZ; rw [if_neg (by decide), if_neg (by decide), if_neg (by decide), if_neg (by decide), if_neg (by decide), if_pos rfl]
    rw [hd]; clear hd
    generalize signZ b 32 = x at S1 ⊢
    generalize signZ c 32 = y at S2 ⊢
    by_cases h : x < y
    · rw [if_pos h]
      go_enter Try.func12, Try.ntmps12
      go_wp2_with (first
        | (go_at_call_of 27 (Value.int IntKind.u32 b); refine (S1.out _).mono ?_; rintro e w' ⟨rfl, rfl⟩)
        | (go_at_call_of 27 (Value.int IntKind.u32 c); refine (S2.out _).mono ?_; rintro e w' ⟨rfl, rfl⟩))
      go_ret
      exact ⟨rfl, (Below.refl _ _).alloc (Nat.le_refl _) _⟩
    · rw [if_neg h]
      go_enter Try.func12, Try.ntmps12
      go_wp2_with (first
        | (go_at_call_of 27 (Value.int IntKind.u32 b); refine (S1.out _).mono ?_; rintro e w' ⟨rfl, rfl⟩)
        | (go_at_call_of 27 (Value.int IntKind.u32 c); refine (S2.out _).mono ?_; rintro e w' ⟨rfl, rfl⟩))
      go_ret
      exact ⟨rfl, (Below.refl _ _).alloc (Nat.le_refl _) _⟩
  · have hu : b % 65536 * c ≤ 65535 * 4294967295 := Nat.mul_le_mul (by omega) (by omega)
    have hv : b / 65536 * (c % 65536) ≤ 65535 * 65535 := Nat.mul_le_mul (by omega) (by omega)
    have hm : doZ 7 imm b c = (((b % 65536 * c : Nat) : Int) + ((b / 65536 * (c % 65536) : Nat) : Int) * 65536) % 4294967296 := by
      have h := mul_word b c
      have h' : doZ 7 imm b c = ((b : Int) * c) % 4294967296 := by unfold doZ; rw [if_neg (by decide), if_neg (by decide), if_neg (by decide), if_neg (by decide), if_neg (by decide), if_neg (by decide), if_pos rfl]
      rw [h', ← h, Int.natCast_mul, Int.natCast_mul, Int.natCast_emod, Int.natCast_emod, Int.natCast_ediv]; rfl
    have e1 : (b : Int) % 65536 * c = ((b % 65536 * c : Nat) : Int) := by rw [Int.natCast_mul, Int.natCast_emod]; rfl
    have e2 : (b : Int) / 65536 * ((c : Int) % 65536) = ((b / 65536 * (c % 65536) : Nat) : Int) := by rw [Int.natCast_mul, Int.natCast_emod, Int.natCast_ediv]; rfl
    generalize b % 65536 * c = u at hu hm e1
    generalize b / 65536 * (c % 65536) = v at hv hm e2
    rw [hm]
    clear hm S1 S2
    go_enter Try.func12, Try.ntmps12
    go_wp2_with (go_at_call 25; refine (W1.out _ _ (by omega) (by omega)).mono ?_; rintro e w' ⟨rfl, rfl⟩)
    go_ret
    exact ⟨rfl, (Below.refl _ _).alloc (Nat.le_refl _) _⟩
  · go_enter Try.func12, Try.ntmps12
    go_wp2_with (go_at_call 25; refine (W1.out _ _ (by omega) (by omega)).mono ?_; rintro e w' ⟨rfl, rfl⟩)
    go_ret
    exact ⟨rfl, (Below.refl _ _).alloc (Nat.le_refl _) _⟩
  · go_enter Try.func12, Try.ntmps12
    go_wp2_with (go_at_call 25; refine (W1.out _ _ (by omega) (by omega)).mono ?_; rintro e w' ⟨rfl, rfl⟩)
    go_ret
    exact ⟨rfl, (Below.refl _ _).alloc (Nat.le_refl _) _⟩
  · obtain ⟨n, rfl⟩ := Int.eq_ofNat_of_zero_le hi
    have hn : n < 4294967296 := by omega
    go_enter Try.func12, Try.ntmps12
    go_wp2_with (go_at_call 26; refine (bitwise_any b n 1 _ hb hn (by omega)).mono ?_; rintro e w' ⟨rfl, rfl⟩)
    go_ret
    exact ⟨rfl, (Below.refl _ _).alloc (Nat.le_refl _) _⟩
  · go_enter Try.func12, Try.ntmps12
    go_wp2
    go_ret
    exact ⟨rfl, (Below.refl _ _).alloc (Nat.le_refl _) _⟩
end Go.Proofs.Ytgcifbamfdahdaa
