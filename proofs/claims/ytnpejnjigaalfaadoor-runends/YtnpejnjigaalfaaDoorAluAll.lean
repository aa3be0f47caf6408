/- The plain arithmetic of layer 4: 'and', 'or', 'exclusive or' bit by bit, from the highest bit on. No condition. What the document's own answers for layer 4 return: one contract a function. What the document's own Do of layer 4 returns, of pure operations. Whether a branch is taken, as the document's own answer says. -/
import Derived.Test.YtnpejnjigaalfaaDoorMath
import Derived.Test.YtnpejnjigaalfaaDoorCalls
import Derived.Deep.RegionWith
namespace Go.Proofs.YtnpejnjigaalfaaDoor
open Go.RowKit
set_option linter.unusedVariables false

/-- 0 and, 1 or, 2 turned: of whole numbers. -/
def bw (how x y : Nat) : Nat := if how = 0 then x &&& y else if how = 1 then x ||| y else x ^^^ y
/-- The same of two bits, reckoned as the document's answer reckons it. -/
def bitOf (how p q : Nat) : Nat := if how = 0 then p * q else if how = 1 then p + q - p * q else (p + q) % 2
theorem bw_div (how x y : Nat) : bw how x y / 2 = bw how (x / 2) (y / 2) := by
  unfold bw
  repeat' split
  · exact Nat.and_div_two
  · exact Nat.or_div_two
  · exact Nat.xor_div_two
theorem bw_mod (how x y : Nat) : bw how x y % 2 = bitOf how (x % 2) (y % 2) := by
  have k : ∀ p q : Nat, p < 2 → q < 2 → bw how p q % 2 = bitOf how p q := by
    intro p q hp hq
    unfold bw bitOf
    rcases (by omega : p = 0 ∨ p = 1) with rfl | rfl <;> rcases (by omega : q = 0 ∨ q = 1) with rfl | rfl <;> (repeat' split) <;> rfl
  rw [← k _ _ (Nat.mod_lt _ (by omega)) (Nat.mod_lt _ (by omega))]
  unfold bw
  repeat' split
  · have h := Nat.and_mod_two_pow (a := x) (b := y) (n := 1)
    rw [Nat.pow_one] at h
    rw [← h, Nat.mod_mod]
  · have h := Nat.or_mod_two_pow (a := x) (b := y) (n := 1)
    rw [Nat.pow_one] at h
    rw [← h, Nat.mod_mod]
  · have h := Nat.xor_mod_two_pow (a := x) (b := y) (n := 1)
    rw [Nat.pow_one] at h
    rw [← h, Nat.mod_mod]
theorem bw_step (how b c i : Nat) : bw how (b >>> i) (c >>> i) = 2 * bw how (b >>> (i + 1)) (c >>> (i + 1)) + bitOf how ((b >>> i) % 2) ((c >>> i) % 2) := by
  have h := Nat.div_add_mod (bw how (b >>> i) (c >>> i)) 2
  rw [bw_div, bw_mod] at h
  rw [Nat.shiftRight_succ, Nat.shiftRight_succ]
  omega
theorem bw_top (how b c : Nat) (hb : b < 4294967296) (hc : c < 4294967296) : bw how (b >>> 32) (c >>> 32) = 0 := by
  have e1 : b >>> 32 = 0 := by rw [Nat.shiftRight_eq_div_pow]; omega
  have e2 : c >>> 32 = 0 := by rw [Nat.shiftRight_eq_div_pow]; omega
  rw [e1, e2]; unfold bw; repeat' split
  all_goals rfl
theorem bw_lt (how b c i : Nat) (hb : b < 4294967296) (hc : c < 4294967296) : bw how (b >>> i) (c >>> i) < 4294967296 := by
  have h1 : b >>> i < 2 ^ 32 := Nat.lt_of_le_of_lt (Nat.shiftRight_le b i) (by omega)
  have h2 : c >>> i < 2 ^ 32 := Nat.lt_of_le_of_lt (Nat.shiftRight_le c i) (by omega)
  unfold bw; repeat' split
  · exact Nat.and_lt_two_pow _ h2
  · exact Nat.or_lt_two_pow h1 h2
  · exact Nat.xor_lt_two_pow h1 h2
/-- A product of words, in halves. -/
theorem mul_halves (h l k m : Int) : (65536 * h + l) * (65536 * k + m) = l * (65536 * k + m) + h * m * 65536 + 4294967296 * (h * k) := by
  have e1 : 65536 * h * (65536 * k) = 4294967296 * (h * k) := by
    rw [Int.mul_assoc 65536 h, ← Int.mul_assoc h, Int.mul_comm h 65536, Int.mul_assoc 65536 h, ← Int.mul_assoc 65536 65536]; rfl
  have e2 : 65536 * h * m = h * m * 65536 := by rw [Int.mul_assoc, Int.mul_comm]
  rw [Int.add_mul, Int.mul_add (65536 * h), e1, e2]
  generalize l * (65536 * k + m) = a
  omega
theorem mul_word (x y : Int) : (x % 65536 * y + x / 65536 * (y % 65536) * 65536) % 4294967296 = (x * y) % 4294967296 := by
  have ex : x = 65536 * (x / 65536) + x % 65536 := by omega
  have ey : y = 65536 * (y / 65536) + y % 65536 := by omega
  have h := mul_halves (x / 65536) (x % 65536) (y / 65536) (y % 65536)
  rw [← ex, ← ey] at h
  rw [h]
  generalize x % 65536 * y + x / 65536 * (y % 65536) * 65536 = a
  generalize x / 65536 * (y / 65536) = b
  omega
open Go.ChangeShapes Go.WideShapes Go.ChangeAt Go.RowKit
set_option linter.unusedVariables false

theorem word_any (x : Int) (w : World) (h0 : -9223372036854775808 ≤ x) (h1 : x ≤ 9223372036854775807) :
    Calls Tryd.prog 43 #[.int .i64 x] w fun e w' => e = .returned (.int .u32 (x % 4294967296)) ∧ w' = w := by
  have k0 : 0 ≤ x % 4294967296 := by omega
  have k1 : x % 4294967296 < 4294967296 := by omega
  go_enter Tryd.func43, Tryd.ntmps43
  go_wp2_with (go_at_call 23; refine (mod_any _ _ _ (by omega) (by omega)).mono ?_; rintro e w' ⟨rfl, rfl⟩)
  go_ret
  exact ⟨rfl, rfl⟩
theorem shr_cast (b j : Nat) : (b : Int) / 2 ^ j = ((b >>> j : Nat) : Int) := by
  rw [Nat.shiftRight_eq_div_pow]; push_cast; rfl
set_option maxHeartbeats 1000000 in
theorem bitwise_any (b c how : Nat) (w : World) (hb : b < 4294967296) (hc : c < 4294967296) (hh : how < 3) :
    Calls Tryd.prog 44 #[.int .u32 b, .int .u32 c, .int .i64 how] w fun e w' => e = .returned (.int .u32 (bw how b c : Nat)) ∧ w' = w := by
  go_enter Tryd.func44, Tryd.ntmps44
  go_wp2
  go_loop [7, 8] (fun x i => ∃ k : Nat, k ≤ 32 ∧ i = .int .i64 (31 - (k : Int)) ∧ x = .int .i64 (bw how (b >>> (32 - k)) (c >>> (32 - k)) : Nat)) (fun _ i => (intOf i + 1).toNat)
  case atStart => exact ⟨0, by omega, rfl, by rw [bw_top how b c hb hc]; rfl⟩
  case round =>
    obtain ⟨k, hk, rfl, rfl⟩ := hrel
    by_cases hlt : k < 32
    · have hz : (0 : Int) ≤ 31 - (k : Int) := by omega
      have hs : 31 - k + 1 = 32 - k := by omega
      have hst := bw_step how b c (31 - k)
      rw [hs] at hst
      have hx := bw_lt how b c (32 - k) hb hc
      have e1 := shr_cast b (31 - k)
      have e2 := shr_cast c (31 - k)
      have l1 : b >>> (31 - k) < 4294967296 := Nat.lt_of_le_of_lt (Nat.shiftRight_le _ _) hb
      have l2 : c >>> (31 - k) < 4294967296 := Nat.lt_of_le_of_lt (Nat.shiftRight_le _ _) hc
      have HN : Hid (32 - (k + 1) = 31 - k) := (by omega : 32 - (k + 1) = 31 - k)
      have HP : Hid (bw how (b >>> (31 - k)) (c >>> (31 - k)) = bw how (b >>> (31 - k)) (c >>> (31 - k))) := rfl
      generalize hX : bw how (b >>> (32 - k)) (c >>> (32 - k)) = X at hst hx ⊢
      generalize hY : bw how (b >>> (31 - k)) (c >>> (31 - k)) = Y at hst
      have HY : Hid (bw how (b >>> (31 - k)) (c >>> (31 - k)) = Y) := hY
      clear hX hY HP
      generalize hp : b >>> (31 - k) = p at e1 l1 hst
      generalize hq : c >>> (31 - k) = q at e2 l2 hst
      clear hp hq hs
      have m0 : (p : Int) % 2 * ((q : Int) % 2) = ((p % 2 * (q % 2) : Nat) : Int) := by push_cast; rfl
      have m1 : p % 2 * (q % 2) < 2 := by
        rcases (by omega : p % 2 = 0 ∨ p % 2 = 1) with h | h <;> rcases (by omega : q % 2 = 0 ∨ q % 2 = 1) with g | g <;> rw [h, g] <;> omega
      have m2 : p % 2 * (q % 2) ≤ p % 2 + q % 2 := by
        rcases (by omega : p % 2 = 0 ∨ p % 2 = 1) with h | h <;> rcases (by omega : q % 2 = 0 ∨ q % 2 = 1) with g | g <;> rw [h, g] <;> omega
      generalize hm : p % 2 * (q % 2) = m at m0 m1 m2
      have HM : Hid (p % 2 * (q % 2) = m) := hm
      have HS : Hid (Y = 2 * X + bitOf how (p % 2) (q % 2)) := hst
      clear hm hst
      rcases (by omega : how = 0 ∨ how = 1 ∨ how = 2) with rfl | rfl | rfl
      all_goals
        have hv := HS.out
        simp only [bitOf, HM.out] at hv
        have HV : Hid _ := hv
        clear hv
        go_wp2
        go_round
        case rel =>
          refine ⟨k + 1, by omega, by go_num, ?_⟩
          rw [HN.out, HY.out]
          have h := HV.out
          simp at h
          congr 1
          omega
        case measure => simp [intOf]; omega
    · obtain rfl : k = 32 := by omega
      go_wp2
      go_ret
      have hl : bw how b c < 4294967296 := by simpa using bw_lt how b c 0 hb hc
      exact ⟨by simp; omega, rfl⟩
open Go.ChangeShapes Go.WideShapes Go.ChangeAt Go.RowKit
set_option linter.unusedVariables false

/-- What an operation writes. -/
def doZ (op imm : Int) (b c : Nat) : Int :=
  if op = 1 then ((b : Int) + c) % 4294967296 else if op = 2 then ((b : Int) - c) % 4294967296
  else if op = 3 then (bw 0 b c : Nat) else if op = 4 then (bw 1 b c : Nat) else if op = 5 then (bw 2 b c : Nat)
  else if op = 6 then (if signZ b 32 < signZ c 32 then 1 else 0)
  else if op = 7 then ((b : Int) * c) % 4294967296 else if op = 8 then ((b : Int) + imm) % 4294967296
  else if op = 9 then (imm * 65536) % 4294967296 else if op = 10 then (bw 1 b imm.toNat : Nat) else 0

set_option maxRecDepth 100000 in
set_option maxHeartbeats 4000000 in
theorem rdo_any (op a rb rc imm : Int) (b c : Nat) (w : World) (hb : b < 4294967296) (hc : c < 4294967296) (hi0 : -32768 ≤ imm) (hi1 : imm ≤ 65535) (ho : op = 1 ∨ op = 2 ∨ op = 3 ∨ op = 4 ∨ op = 5 ∨ op = 6 ∨ op = 7 ∨ op = 8 ∨ op = 9 ∨ (op = 10 ∧ 0 ≤ imm) ∨ op = 24) :
    Calls Tryd.prog 26 #[.agg #[.int .i64 op, .int .i64 a, .int .i64 rb, .int .i64 rc, .int .i64 imm], .int .u32 b, .int .u32 c] w fun e w' => e = .returned (.int .u32 (doZ op imm b c)) ∧ Below w.heap.size w w' := by
  have S1 : Hid (∀ W, Calls Tryd.prog 35 #[.int .u32 b, .int .i64 32] W fun e w' => e = .returned (.int .i64 (signZ b 32)) ∧ w' = W) := fun W => rsign_any b 32 W (by omega) (by omega)
  have S2 : Hid (∀ W, Calls Tryd.prog 35 #[.int .u32 c, .int .i64 32] W fun e w' => e = .returned (.int .i64 (signZ c 32)) ∧ w' = W) := fun W => rsign_any c 32 W (by omega) (by omega)
  have W1 : Hid (∀ (x : Int) (W : World), -9223372036854775808 ≤ x → x ≤ 9223372036854775807 → Calls Tryd.prog 43 #[.int .i64 x] W fun e w' => e = .returned (.int .u32 (x % 4294967296)) ∧ w' = W) := fun x W h0 h1 => word_any x W h0 h1
  rcases ho with rfl | rfl | rfl | rfl | rfl | rfl | rfl | rfl | rfl | ⟨rfl, hi⟩ | rfl
  · go_enter Tryd.func26, Tryd.ntmps26
    go_wp2_with (go_at_call 43; refine (W1.out _ _ (by omega) (by omega)).mono ?_; rintro e w' ⟨rfl, rfl⟩)
    go_ret
    exact ⟨rfl, (Below.refl _ _).alloc (Nat.le_refl _) _⟩
  · go_enter Tryd.func26, Tryd.ntmps26
    go_wp2_with (go_at_call 43; refine (W1.out _ _ (by omega) (by omega)).mono ?_; rintro e w' ⟨rfl, rfl⟩)
    go_ret
    exact ⟨rfl, (Below.refl _ _).alloc (Nat.le_refl _) _⟩
  · go_enter Tryd.func26, Tryd.ntmps26
    go_wp2_with (go_at_call 44; refine (bitwise_any b c 0 _ hb hc (by omega)).mono ?_; rintro e w' ⟨rfl, rfl⟩)
    go_ret
    exact ⟨rfl, (Below.refl _ _).alloc (Nat.le_refl _) _⟩
  · go_enter Tryd.func26, Tryd.ntmps26
    go_wp2_with (go_at_call 44; refine (bitwise_any b c 1 _ hb hc (by omega)).mono ?_; rintro e w' ⟨rfl, rfl⟩)
    go_ret
    exact ⟨rfl, (Below.refl _ _).alloc (Nat.le_refl _) _⟩
  · go_enter Tryd.func26, Tryd.ntmps26
    go_wp2_with (go_at_call 44; refine (bitwise_any b c 2 _ hb hc (by omega)).mono ?_; rintro e w' ⟨rfl, rfl⟩)
    go_ret
    exact ⟨rfl, (Below.refl _ _).alloc (Nat.le_refl _) _⟩
  · have hd : doZ 6 imm b c = if signZ b 32 < signZ c 32 then 1 else 0 := by unfold doZ; rw [if_neg (by decide), if_neg (by decide), if_neg (by decide), if_neg (by decide), if_neg (by decide), if_pos rfl]
    rw [hd]; clear hd
    generalize signZ b 32 = x at S1 ⊢
    generalize signZ c 32 = y at S2 ⊢
    by_cases h : x < y
    · rw [if_pos h]
      go_enter Tryd.func26, Tryd.ntmps26
      go_wp2_with (first
        | (go_at_call_of 35 (Value.int IntKind.u32 b); refine (S1.out _).mono ?_; rintro e w' ⟨rfl, rfl⟩)
        | (go_at_call_of 35 (Value.int IntKind.u32 c); refine (S2.out _).mono ?_; rintro e w' ⟨rfl, rfl⟩))
      go_ret
      exact ⟨rfl, (Below.refl _ _).alloc (Nat.le_refl _) _⟩
    · rw [if_neg h]
      go_enter Tryd.func26, Tryd.ntmps26
      go_wp2_with (first
        | (go_at_call_of 35 (Value.int IntKind.u32 b); refine (S1.out _).mono ?_; rintro e w' ⟨rfl, rfl⟩)
        | (go_at_call_of 35 (Value.int IntKind.u32 c); refine (S2.out _).mono ?_; rintro e w' ⟨rfl, rfl⟩))
      go_ret
      exact ⟨rfl, (Below.refl _ _).alloc (Nat.le_refl _) _⟩
  · have hu : b % 65536 * c ≤ 65535 * 4294967295 := Nat.mul_le_mul (by omega) (by omega)
    have hv : b / 65536 * (c % 65536) ≤ 65535 * 65535 := Nat.mul_le_mul (by omega) (by omega)
    have hm : doZ 7 imm b c = (((b % 65536 * c : Nat) : Int) + ((b / 65536 * (c % 65536) : Nat) : Int) * 65536) % 4294967296 := by
      have h := mul_word b c
      have h' : doZ 7 imm b c = ((b : Int) * c) % 4294967296 := by unfold doZ; rw [if_neg (by decide), if_neg (by decide), if_neg (by decide), if_neg (by decide), if_neg (by decide), if_neg (by decide), if_pos rfl]
      rw [h', ← h, Int.natCast_mul, Int.natCast_mul, Int.natCast_emod, Int.natCast_emod, Int.natCast_ediv]; rfl
    have e1 : (b : Int) % 65536 * c = ((b % 65536 * c : Nat) : Int) := by rw [Int.natCast_mul, Int.natCast_emod]; rfl
    have e2 : (b : Int) / 65536 * ((c : Int) % 65536) = ((b / 65536 * (c % 65536) : Nat) : Int) := by rw [Int.natCast_mul, Int.natCast_emod, Int.natCast_ediv]; rfl
    generalize b % 65536 * c = u at hu hm e1
    generalize b / 65536 * (c % 65536) = v at hv hm e2
    rw [hm]
    clear hm S1 S2
    go_enter Tryd.func26, Tryd.ntmps26
    go_wp2_with (go_at_call 43; refine (W1.out _ _ (by omega) (by omega)).mono ?_; rintro e w' ⟨rfl, rfl⟩)
    go_ret
    exact ⟨rfl, (Below.refl _ _).alloc (Nat.le_refl _) _⟩
  · go_enter Tryd.func26, Tryd.ntmps26
    go_wp2_with (go_at_call 43; refine (W1.out _ _ (by omega) (by omega)).mono ?_; rintro e w' ⟨rfl, rfl⟩)
    go_ret
    exact ⟨rfl, (Below.refl _ _).alloc (Nat.le_refl _) _⟩
  · go_enter Tryd.func26, Tryd.ntmps26
    go_wp2_with (go_at_call 43; refine (W1.out _ _ (by omega) (by omega)).mono ?_; rintro e w' ⟨rfl, rfl⟩)
    go_ret
    exact ⟨rfl, (Below.refl _ _).alloc (Nat.le_refl _) _⟩
  · obtain ⟨n, rfl⟩ := Int.eq_ofNat_of_zero_le hi
    have hn : n < 4294967296 := by omega
    go_enter Tryd.func26, Tryd.ntmps26
    go_wp2_with (go_at_call 44; refine (bitwise_any b n 1 _ hb hn (by omega)).mono ?_; rintro e w' ⟨rfl, rfl⟩)
    go_ret
    exact ⟨rfl, (Below.refl _ _).alloc (Nat.le_refl _) _⟩
  · go_enter Tryd.func26, Tryd.ntmps26
    go_wp2
    go_ret
    exact ⟨rfl, (Below.refl _ _).alloc (Nat.le_refl _) _⟩
open Go.ChangeShapes Go.WideShapes Go.ChangeAt Go.RowKit
set_option linter.unusedVariables false

/-- Is a branch taken? -/
def takenB (op a b : Int) : Bool :=
  if op = 15 then decide (signZ a 32 = signZ b 32) else if op = 16 then decide (¬ signZ a 32 = signZ b 32) else if op = 17 then decide (signZ a 32 < signZ b 32) else if op = 18 then decide (signZ b 32 ≤ signZ a 32) else false
set_option maxHeartbeats 1000000 in
theorem rtaken_any (op a b : Int) (w : World) (a0 : 0 ≤ a) (a1 : a < 4294967296) (b0 : 0 ≤ b) (b1 : b < 4294967296) :
    Calls Tryd.prog 27 #[.int .i64 op, .int .u32 a, .int .u32 b] w fun e w' => e = .returned (.bool (takenB op a b)) ∧ w' = w := by
  have s1 := fun W => rsign_any a 32 W a0 a1
  have s2 := fun W => rsign_any b 32 W b0 b1
  have hT : takenB op a b = if op = 15 then decide (signZ a 32 = signZ b 32) else if op = 16 then decide (¬ signZ a 32 = signZ b 32) else if op = 17 then decide (signZ a 32 < signZ b 32) else if op = 18 then decide (signZ b 32 ≤ signZ a 32) else false := rfl
  rw [hT]; clear hT
  generalize signZ a 32 = x at s1 ⊢
  generalize signZ b 32 = y at s2 ⊢
  have S1 : Hid _ := s1
  have S2 : Hid _ := s2
  clear s1 s2
  rcases (by omega : op = 15 ∨ op = 16 ∨ op = 17 ∨ op = 18 ∨ (op ≠ 15 ∧ op ≠ 16 ∧ op ≠ 17 ∧ op ≠ 18)) with rfl | rfl | rfl | rfl | ⟨n1, n2, n3, n4⟩
  rotate_left 4
  · have m1 : (op == 15) = false := by simpa using n1
    have m2 : (op == 16) = false := by simpa using n2
    have m3 : (op == 17) = false := by simpa using n3
    have m4 : (op == 18) = false := by simpa using n4
    rw [if_neg n1, if_neg n2, if_neg n3, if_neg n4]
    clear n1 n2 n3 n4
    go_enter Tryd.func27, Tryd.ntmps27
    go_wp2_with (first
      | (go_at_call_of 35 (Value.int IntKind.u32 a); refine (S1.out _).mono ?_; rintro e w' ⟨rfl, rfl⟩)
      | (go_at_call_of 35 (Value.int IntKind.u32 b); refine (S2.out _).mono ?_; rintro e w' ⟨rfl, rfl⟩))
    go_ret
    exact ⟨rfl, rfl⟩
  all_goals
    go_enter Tryd.func27, Tryd.ntmps27
    go_wp2_with (first
      | (go_at_call_of 35 (Value.int IntKind.u32 a); refine (S1.out _).mono ?_; rintro e w' ⟨rfl, rfl⟩)
      | (go_at_call_of 35 (Value.int IntKind.u32 b); refine (S2.out _).mono ?_; rintro e w' ⟨rfl, rfl⟩))
    all_goals
      go_ret
      exact ⟨ret_bool (by first | rfl | (rw [Bool.eq_iff_iff]; simp_all; done) | (rw [Bool.eq_iff_iff]; simp_all; omega)), rfl⟩
end Go.Proofs.YtnpejnjigaalfaaDoor
