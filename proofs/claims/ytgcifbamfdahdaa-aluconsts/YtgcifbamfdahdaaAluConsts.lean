/- For every number and every two words AluConsts returns true: what Const answers of a register are one or two right pure instructions that write the word, whatever was there, one Addi where the word is a number in 16 bits; of a number that is no register none. No condition. -/
import Derived.Test.YtgcifbamfdahdaaFrame
import Derived.Test.YtgcifbamfdahdaaAluAwake
import Derived.Test.YtgcifbamfdahdaaCodeRef
import Derived.Test.YtgcifbamfdahdaaFlowKind
import Derived.Deep.RegionHeld3
import Derived.WalkKit
import Derived.ProofKit
namespace Go.Proofs.Ytgcifbamfdahdaa.aluConsts
open Go.ChangeShapes Go.WideShapes Go.ChangeAt Go.RowKit Go.Sort
set_option linter.unusedVariables false

theorem walk_out (a0 a1 a2 : Int) (w : World) (h : a0 < 1 ∨ 15 < a0) :
    Calls Try.prog 5 #[.int .i64 a0, .int .u32 a1, .int .u32 a2] w fun e w' => e = .returned (.bool true) ∧ Below w.heap.size w w' := by
  have HC : Hid (∀ W, Calls Try.prog 15 #[.int .i64 a0, .int .u32 a1] W fun e w' => e = .returned (.slice none 0 0) ∧ w' = W) := fun W => const_out a0 a1 W h
  rcases h with h | h
  all_goals
    go_enter Try.func5, Try.ntmps5
    go_wp2_with (first
      | (go_at_call 15; refine (HC.out _).mono ?_; rintro e w' ⟨rfl, hw⟩; obtain rfl := hw.symm)
      | (go_at_call 8; revert hb1; intro hb1; refine (awake_any _).mono ?_; rintro e w2 ⟨rfl, hb2⟩)
      | (go_at_call 8; refine (awake_any _).mono ?_; rintro e w1 ⟨rfl, hb1⟩))
    go_ret
    exact ⟨rfl, bnext hb1 hb2⟩
set_option maxRecDepth 100000 in
set_option maxHeartbeats 1000000 in
theorem walk_small (a0 a1 a2 imm : Int) (w : World) (h0 : 1 ≤ a0) (h1 : a0 ≤ 15) (hs : a1 ≤ 32767 ∨ 4294934528 ≤ a1) (HC : Hid (∀ W, Calls Try.prog 15 #[.int .i64 a0, .int .u32 a1] W fun e w' => ∃ g cap, e = .returned (.slice (some ⟨g, 0, none⟩) 1 cap) ∧ InsAt w' g 8 a0 0 0 imm ∧ Below W.heap.size W w')) (HR : Hid (∀ W, Calls Try.prog 9 #[.agg #[.int .i64 8, .int .i64 a0, .int .i64 0, .int .i64 0, .int .i64 imm]] W fun e w' => e = .returned (.bool true) ∧ Below W.heap.size W w')) (HK : Hid (∀ W, Calls Try.prog 10 #[.agg #[.int .i64 8, .int .i64 a0, .int .i64 0, .int .i64 0, .int .i64 imm]] W fun e w' => e = .returned (.int .i64 0) ∧ Below W.heap.size W w')) (HD : Hid (∀ W, Calls Try.prog 11 #[.agg #[.int .i64 8, .int .i64 a0, .int .i64 0, .int .i64 0, .int .i64 imm], .int .u32 0, .int .u32 0] W fun e w' => e = .returned (.int .u32 a1) ∧ Below W.heap.size W w')) :
    Calls Try.prog 5 #[.int .i64 a0, .int .u32 a1, .int .u32 a2] w fun e w' => e = .returned (.bool true) ∧ Below w.heap.size w w' := by
  go_enter Try.func5, Try.ntmps5
  go_wp2_with (first
      | (go_at_call 15; refine (HC.out _).mono ?_; rintro e w1 ⟨g, cap, rfl, Q1, hb1⟩)
      | (go_at_call 8; refine (awake_any _).mono ?_; rintro e w2 ⟨rfl, hb2⟩))
  have HB2 : Hid (Below w.heap.size w w2) := bnext hb1 hb2
  have HQ2 : Hid (InsAt w2 g 8 a0 0 0 imm) := Q1.later hb2
  clear hb1 hb2 Q1
  go_loopw [8, 9] (fun x k wr => Below w2.heap.size w2 wr ∧ (k = .int .i64 0 ∧ x = .int .u32 a2 ∨ k = .int .i64 1 ∧ x = .int .u32 a1)) (fun _ k _ => 1 - (intOf k).toNat)
  case atStart => exact ⟨Below.refl _ _, .inl ⟨rfl, rfl⟩⟩
  case round =>
    obtain ⟨hbel, ⟨rfl, rfl⟩ | ⟨rfl, rfl⟩⟩ := hrel
    · have HB : Hid (Below w2.heap.size w2 wr) := hbel
      obtain ⟨x0, x1, x2, x3, x4⟩ := HQ2.out.later hbel
      clear hbel
      go_wp2_with (first
        | (go_at_call 9; refine (HR.out _).mono ?_; rintro e w3 ⟨rfl, hb3⟩; have Q3 := (InsAt.new wr 8 a0 0 0 imm 23).later hb3; obtain ⟨y0, y1, y2, y3, y4⟩ := id Q3)
        | (go_at_call 10; refine (HK.out _).mono ?_; rintro e w4 ⟨rfl, hb4⟩; have Q4 := Q3.later hb4; obtain ⟨z0, z1, z2, z3, z4⟩ := id Q4)
        | (go_at_call 11; refine (HD.out _).mono ?_; rintro e w5 ⟨rfl, hb5⟩))
      go_roundw
      case rel => exact ⟨bnext (bnext (bnext (HB.out.trans (((Below.refl _ _).alloc (Nat.le_refl _) _).mono HB.out.size)) hb3) hb4) hb5, .inr ⟨rfl, rfl⟩⟩
      case measure => simp [intOf]
    · have HB : Hid (Below w2.heap.size w2 wr) := hbel
      obtain ⟨x0, x1, x2, x3, x4⟩ := HQ2.out.later hbel
      clear hbel
      rcases hs with hs | hs
      all_goals
        go_wp2
        go_ret
        exact ⟨rfl, bnext HB2.out HB.out⟩
set_option maxRecDepth 100000 in
set_option maxHeartbeats 1000000 in
theorem walk_high (a0 a1 a2 imm : Int) (w : World) (h0 : 1 ≤ a0) (h1 : a0 ≤ 15) (hs0 : 32767 < a1) (hs1 : a1 < 4294934528) (HC : Hid (∀ W, Calls Try.prog 15 #[.int .i64 a0, .int .u32 a1] W fun e w' => ∃ g cap, e = .returned (.slice (some ⟨g, 0, none⟩) 1 cap) ∧ InsAt w' g 9 a0 0 0 imm ∧ Below W.heap.size W w')) (HR : Hid (∀ W, Calls Try.prog 9 #[.agg #[.int .i64 9, .int .i64 a0, .int .i64 0, .int .i64 0, .int .i64 imm]] W fun e w' => e = .returned (.bool true) ∧ Below W.heap.size W w')) (HK : Hid (∀ W, Calls Try.prog 10 #[.agg #[.int .i64 9, .int .i64 a0, .int .i64 0, .int .i64 0, .int .i64 imm]] W fun e w' => e = .returned (.int .i64 0) ∧ Below W.heap.size W w')) (HD : Hid (∀ W, Calls Try.prog 11 #[.agg #[.int .i64 9, .int .i64 a0, .int .i64 0, .int .i64 0, .int .i64 imm], .int .u32 0, .int .u32 0] W fun e w' => e = .returned (.int .u32 a1) ∧ Below W.heap.size W w')) :
    Calls Try.prog 5 #[.int .i64 a0, .int .u32 a1, .int .u32 a2] w fun e w' => e = .returned (.bool true) ∧ Below w.heap.size w w' := by
  go_enter Try.func5, Try.ntmps5
  go_wp2_with (first
      | (go_at_call 15; refine (HC.out _).mono ?_; rintro e w1 ⟨g, cap, rfl, Q1, hb1⟩)
      | (go_at_call 8; refine (awake_any _).mono ?_; rintro e w2 ⟨rfl, hb2⟩))
  have HB2 : Hid (Below w.heap.size w w2) := bnext hb1 hb2
  have HQ2 : Hid (InsAt w2 g 9 a0 0 0 imm) := Q1.later hb2
  clear hb1 hb2 Q1
  go_loopw [8, 9] (fun x k wr => Below w2.heap.size w2 wr ∧ (k = .int .i64 0 ∧ x = .int .u32 a2 ∨ k = .int .i64 1 ∧ x = .int .u32 a1)) (fun _ k _ => 1 - (intOf k).toNat)
  case atStart => exact ⟨Below.refl _ _, .inl ⟨rfl, rfl⟩⟩
  case round =>
    obtain ⟨hbel, ⟨rfl, rfl⟩ | ⟨rfl, rfl⟩⟩ := hrel
    · have HB : Hid (Below w2.heap.size w2 wr) := hbel
      obtain ⟨x0, x1, x2, x3, x4⟩ := HQ2.out.later hbel
      clear hbel
      go_wp2_with (first
        | (go_at_call 9; refine (HR.out _).mono ?_; rintro e w3 ⟨rfl, hb3⟩; have Q3 := (InsAt.new wr 9 a0 0 0 imm 23).later hb3; obtain ⟨y0, y1, y2, y3, y4⟩ := id Q3)
        | (go_at_call 10; refine (HK.out _).mono ?_; rintro e w4 ⟨rfl, hb4⟩; have Q4 := Q3.later hb4; obtain ⟨z0, z1, z2, z3, z4⟩ := id Q4)
        | (go_at_call 11; refine (HD.out _).mono ?_; rintro e w5 ⟨rfl, hb5⟩))
      go_roundw
      case rel => exact ⟨bnext (bnext (bnext (HB.out.trans (((Below.refl _ _).alloc (Nat.le_refl _) _).mono HB.out.size)) hb3) hb4) hb5, .inr ⟨rfl, rfl⟩⟩
      case measure => simp [intOf]
    · have HB : Hid (Below w2.heap.size w2 wr) := hbel
      obtain ⟨x0, x1, x2, x3, x4⟩ := HQ2.out.later hbel
      clear hbel
      go_wp2
      go_ret
      exact ⟨rfl, bnext HB2.out HB.out⟩
/-- The second instruction of the row. -/
def Second (w : World) (g : Nat) (a low : Int) : Prop :=
  w.cell? ⟨g, 5, none⟩ = some (.int .i64 10) ∧ w.cell? ⟨g, 6, none⟩ = some (.int .i64 a) ∧ w.cell? ⟨g, 7, none⟩ = some (.int .i64 a) ∧ w.cell? ⟨g, 8, none⟩ = some (.int .i64 0) ∧ w.cell? ⟨g, 9, none⟩ = some (.int .i64 low)
theorem Second.later {w w' : World} {g : Nat} {a low : Int} (h : Second w g a low) (hb : Below w.heap.size w w') : Second w' g a low :=
  ⟨cell_later' h.1 hb, cell_later' h.2.1 hb, cell_later' h.2.2.1 hb, cell_later' h.2.2.2.1 hb, cell_later' h.2.2.2.2 hb⟩
set_option maxRecDepth 100000 in
set_option maxHeartbeats 1000000 in
theorem walk_two (a0 a1 a2 imm low X : Int) (w : World) (h0 : 1 ≤ a0) (h1 : a0 ≤ 15) (hs0 : 32767 < a1) (hs1 : a1 < 4294934528) (hl : (a1 % 65536 != 0) = true) (HC : Hid (∀ W, Calls Try.prog 15 #[.int .i64 a0, .int .u32 a1] W fun e w' => ∃ g cap, e = .returned (.slice (some ⟨g, 0, none⟩) 2 cap) ∧ InsAt w' g 9 a0 0 0 imm ∧ Second w' g a0 low ∧ Below W.heap.size W w')) (HR1 : Hid (∀ W, Calls Try.prog 9 #[.agg #[.int .i64 9, .int .i64 a0, .int .i64 0, .int .i64 0, .int .i64 imm]] W fun e w' => e = .returned (.bool true) ∧ Below W.heap.size W w')) (HK1 : Hid (∀ W, Calls Try.prog 10 #[.agg #[.int .i64 9, .int .i64 a0, .int .i64 0, .int .i64 0, .int .i64 imm]] W fun e w' => e = .returned (.int .i64 0) ∧ Below W.heap.size W w')) (HD1 : Hid (∀ W, Calls Try.prog 11 #[.agg #[.int .i64 9, .int .i64 a0, .int .i64 0, .int .i64 0, .int .i64 imm], .int .u32 0, .int .u32 0] W fun e w' => e = .returned (.int .u32 X) ∧ Below W.heap.size W w')) (HR2 : Hid (∀ W, Calls Try.prog 9 #[.agg #[.int .i64 10, .int .i64 a0, .int .i64 a0, .int .i64 0, .int .i64 low]] W fun e w' => e = .returned (.bool true) ∧ Below W.heap.size W w')) (HK2 : Hid (∀ W, Calls Try.prog 10 #[.agg #[.int .i64 10, .int .i64 a0, .int .i64 a0, .int .i64 0, .int .i64 low]] W fun e w' => e = .returned (.int .i64 0) ∧ Below W.heap.size W w')) (HD2 : Hid (∀ W, Calls Try.prog 11 #[.agg #[.int .i64 10, .int .i64 a0, .int .i64 a0, .int .i64 0, .int .i64 low], .int .u32 X, .int .u32 0] W fun e w' => e = .returned (.int .u32 a1) ∧ Below W.heap.size W w')) :
    Calls Try.prog 5 #[.int .i64 a0, .int .u32 a1, .int .u32 a2] w fun e w' => e = .returned (.bool true) ∧ Below w.heap.size w w' := by
  go_enter Try.func5, Try.ntmps5
  go_wp2_with (first
      | (go_at_call 15; refine (HC.out _).mono ?_; rintro e w1 ⟨g, cap, rfl, Q1, Q1', hb1⟩)
      | (go_at_call 8; refine (awake_any _).mono ?_; rintro e w2 ⟨rfl, hb2⟩))
  have HB2 : Hid (Below w.heap.size w w2) := bnext hb1 hb2
  have HQ2 : Hid (InsAt w2 g 9 a0 0 0 imm ∧ Second w2 g a0 low) := ⟨Q1.later hb2, Q1'.later hb2⟩
  clear hb1 hb2 Q1 Q1'
  go_loopw [8, 9] (fun x k wr => Below w2.heap.size w2 wr ∧ (k = .int .i64 0 ∧ x = .int .u32 a2 ∨ k = .int .i64 1 ∧ x = .int .u32 X ∨ k = .int .i64 2 ∧ x = .int .u32 a1)) (fun _ k _ => 2 - (intOf k).toNat)
  case atStart => exact ⟨Below.refl _ _, .inl ⟨rfl, rfl⟩⟩
  case round =>
    obtain ⟨hbel, ⟨rfl, rfl⟩ | ⟨rfl, rfl⟩ | ⟨rfl, rfl⟩⟩ := hrel
    · have HB : Hid (Below w2.heap.size w2 wr) := hbel
      obtain ⟨x0, x1, x2, x3, x4⟩ := HQ2.out.1.later hbel
      clear hbel
      go_wp2_with (first
        | (go_at_call 9; refine (HR1.out _).mono ?_; rintro e w3 ⟨rfl, hb3⟩; have Q3 := (InsAt.new wr 9 a0 0 0 imm 23).later hb3; obtain ⟨y0, y1, y2, y3, y4⟩ := id Q3)
        | (go_at_call 10; refine (HK1.out _).mono ?_; rintro e w4 ⟨rfl, hb4⟩; have Q4 := Q3.later hb4; obtain ⟨z0, z1, z2, z3, z4⟩ := id Q4)
        | (go_at_call 11; refine (HD1.out _).mono ?_; rintro e w5 ⟨rfl, hb5⟩))
      go_roundw
      case rel => exact ⟨bnext (bnext (bnext (HB.out.trans (((Below.refl _ _).alloc (Nat.le_refl _) _).mono HB.out.size)) hb3) hb4) hb5, .inr (.inl ⟨rfl, rfl⟩)⟩
      case measure => simp [intOf]
    · have HB : Hid (Below w2.heap.size w2 wr) := hbel
      obtain ⟨x0, x1, x2, x3, x4⟩ := HQ2.out.2.later hbel
      clear hbel
      go_wp2_with (first
        | (go_at_call 9; refine (HR2.out _).mono ?_; rintro e w3 ⟨rfl, hb3⟩; have Q3 := (InsAt.new wr 10 a0 a0 0 low 23).later hb3; obtain ⟨y0, y1, y2, y3, y4⟩ := id Q3)
        | (go_at_call 10; refine (HK2.out _).mono ?_; rintro e w4 ⟨rfl, hb4⟩; have Q4 := Q3.later hb4; obtain ⟨z0, z1, z2, z3, z4⟩ := id Q4)
        | (go_at_call 11; refine (HD2.out _).mono ?_; rintro e w5 ⟨rfl, hb5⟩))
      go_roundw
      case rel => exact ⟨bnext (bnext (bnext (HB.out.trans (((Below.refl _ _).alloc (Nat.le_refl _) _).mono HB.out.size)) hb3) hb4) hb5, .inr (.inr ⟨rfl, rfl⟩)⟩
      case measure => simp [intOf]
    · have HB : Hid (Below w2.heap.size w2 wr) := hbel
      obtain ⟨x0, x1, x2, x3, x4⟩ := HQ2.out.1.later hbel
      clear hbel
      go_wp2
      go_ret
      exact ⟨rfl, bnext HB2.out HB.out⟩
theorem fits_small (x : Int) (x0 : 0 ≤ x) (x1 : x < 4294967296) : fitsB (signZ x 32) 16 = true ↔ x ≤ 32767 ∨ 4294934528 ≤ x := by
  rw [sign32 x x0 x1]
  unfold fitsB wrap32
  have e : (2 : Int) ^ ((16 : Int).toNat - 1) = 32768 := rfl
  rw [e]; simp only [decide_eq_true_eq]; omega
theorem small_word (x : Int) (x0 : 0 ≤ x) (x1 : x < 4294967296) : doZ 8 (signZ x 32) 0 0 = x := by
  rw [sign32 x x0 x1]; unfold doZ wrap32
  rw [if_neg (by decide), if_neg (by decide), if_neg (by decide), if_neg (by decide), if_neg (by decide), if_neg (by decide), if_neg (by decide), if_pos rfl]; omega
theorem high_word (x : Int) (x0 : 0 ≤ x) (x1 : x < 4294967296) : doZ 9 (x / 65536) 0 0 = x - x % 65536 := by
  unfold doZ
  rw [if_neg (by decide), if_neg (by decide), if_neg (by decide), if_neg (by decide), if_neg (by decide), if_neg (by decide), if_neg (by decide), if_neg (by decide), if_pos rfl]; omega
theorem or_word (n : Nat) : n - n % 65536 ||| n % 65536 = n := by
  have h := Nat.div_add_mod n 65536
  have h2 : n - n % 65536 = 2 ^ 16 * (n / 65536) := by omega
  rw [h2, ← Nat.two_pow_add_eq_or_of_lt (by omega : n % 65536 < 2 ^ 16)]; omega
theorem both_word (n : Nat) (c : Nat) : doZ 10 ((n % 65536 : Nat) : Int) (n - n % 65536) c = n := by
  unfold doZ
  rw [if_neg (by decide), if_neg (by decide), if_neg (by decide), if_neg (by decide), if_neg (by decide), if_neg (by decide), if_neg (by decide), if_neg (by decide), if_neg (by decide), if_pos rfl]
  show (((n - n % 65536) ||| (((n % 65536 : Nat) : Int).toNat) : Nat) : Int) = n
  rw [Int.toNat_natCast, or_word]
theorem fits_bd (y : Int) (h : fitsB y 16 = true) : -32768 ≤ y ∧ y ≤ 32767 := by
  unfold fitsB at h
  have e : (2 : Int) ^ ((16 : Int).toNat - 1) = 32768 := rfl
  rw [e] at h; simp only [decide_eq_true_eq] at h; omega
theorem right_c {op a b c imm : Int} (h : rightB op a b c imm = true) (W : World) : Calls Try.prog 9 #[.agg #[.int .i64 op, .int .i64 a, .int .i64 b, .int .i64 c, .int .i64 imm]] W fun e w' => e = .returned (.bool true) ∧ Below W.heap.size W w' :=
  h ▸ rright_any op a b c imm W
theorem kind_c (op a b c imm : Int) (h : 8 ≤ op ∧ op ≤ 10) (W : World) : Calls Try.prog 10 #[.agg #[.int .i64 op, .int .i64 a, .int .i64 b, .int .i64 c, .int .i64 imm]] W fun e w' => e = .returned (.int .i64 0) ∧ Below W.heap.size W w' := by
  have e : kindZ op = 0 := by unfold kindZ; rw [if_pos (.inl (by omega))]
  have := rkind_any op a b c imm W (by omega) (by omega)
  rw [e] at this; exact this
theorem walk (a0 : Int) (w0 : (Lit.int .i64 a0).wf = true) (a1 : Int) (w1 : (Lit.int .u32 a1).wf = true) (a2 : Int) (w2 : (Lit.int .u32 a2).wf = true) (w : World) :
    Calls Try.prog 5 #[.int .i64 a0, .int .u32 a1, .int .u32 a2] w fun e w' => e = .returned (.bool true) ∧ Below w.heap.size w w' := by
  obtain ⟨x0, x1⟩ := wf_u32_bd w1
  by_cases ha : a0 < 1 ∨ 15 < a0
  · exact walk_out a0 a1 a2 w ha
  have h0 : 1 ≤ a0 := by omega
  have h1 : a0 ≤ 15 := by omega
  have hc := fun W => const_any a0 a1 W h0 h1 x0 x1
  cases hf : fitsB (signZ a1 32) 16
  · have hn : 32767 < a1 ∧ a1 < 4294934528 := by
      have := mt (fits_small a1 x0 x1).2 (by rw [hf]; decide)
      omega
    by_cases hl : a1 % 65536 = 0
    · have en : constN a1 = 1 := by unfold constN; rw [hf, if_neg (by decide), if_pos hl]
      rw [en] at hc
      refine walk_high a0 a1 a2 (a1 / 65536) w h0 h1 hn.1 hn.2 (fun W => (hc W).mono ?_) (right_c ?_) (kind_c 9 _ _ _ _ (by omega)) (fun W => ?_)
      · rintro e w' ⟨g, cap, rfl, _, hr, _, hb⟩
        have h := hr 0 (by omega)
        simp only [constO, constB, constI, hf, if_pos] at h
        exact ⟨g, cap, rfl, h, hb⟩
      · rw [right_high]; simp; omega
      · have h := do_any 9 a0 0 0 (a1 / 65536) 0 0 W (by omega) (by omega) (by omega) (by omega) (by omega) (by omega)
        rw [high_word a1 x0 x1, hl, Int.sub_zero] at h; exact h
    · have en : constN a1 = 2 := by unfold constN; rw [hf, if_neg (by decide), if_neg hl]
      rw [en] at hc
      refine walk_two a0 a1 a2 (a1 / 65536) (a1 % 65536) (a1 - a1 % 65536) w h0 h1 hn.1 hn.2 (by simpa using hl) (fun W => (hc W).mono ?_) (right_c ?_) (kind_c 9 _ _ _ _ (by omega)) (fun W => ?_) (right_c ?_) (kind_c 10 _ _ _ _ (by omega)) (fun W => ?_)
      · rintro e w' ⟨g, cap, rfl, _, hr, _, hb⟩
        have h := hr 0 (by omega)
        have k := hr 1 (by omega)
        simp only [constO, constB, constI, hf, if_pos] at h
        simp [constO, constB, constI] at k
        exact ⟨g, cap, rfl, h, k, hb⟩
      · rw [right_high]; simp; omega
      · have h := do_any 9 a0 0 0 (a1 / 65536) 0 0 W (by omega) (by omega) (by omega) (by omega) (by omega) (by omega)
        rw [high_word a1 x0 x1] at h; exact h
      · rw [right_ori]; simp; omega
      · obtain ⟨n, rfl⟩ := Int.eq_ofNat_of_zero_le x0
        have h := do_any 10 a0 a0 0 ((n % 65536 : Nat) : Int) (n - n % 65536) 0 W (by omega) (by omega) (by omega) (by omega) (by omega) (by omega)
        rw [both_word] at h
        have e1 : ((n - n % 65536 : Nat) : Int) = (n : Int) - (n : Int) % 65536 := by omega
        have e2 : ((n % 65536 : Nat) : Int) = (n : Int) % 65536 := by omega
        rw [e1, e2] at h; exact h
  · have en : constN a1 = 1 := by unfold constN; rw [hf, if_pos rfl]
    rw [en] at hc
    obtain ⟨f0, f1⟩ := fits_bd _ hf
    refine walk_small a0 a1 a2 (signZ a1 32) w h0 h1 ((fits_small a1 x0 x1).1 hf) (fun W => (hc W).mono ?_) (right_c ?_) (kind_c 8 _ _ _ _ (by omega)) (fun W => ?_)
    · rintro e w' ⟨g, cap, rfl, _, hr, _, hb⟩
      have h := hr 0 (by omega)
      simp only [constO, constB, constI, hf, if_pos] at h
      exact ⟨g, cap, rfl, h, hb⟩
    · rw [right_near _ _ _ _ _ (.inl rfl)]; simp; omega
    · have h := do_any 8 a0 0 0 (signZ a1 32) 0 0 W (by omega) (by omega) (by omega) (by omega) (by omega) (by omega)
      rw [small_word a1 x0 x1] at h; exact h

/-! ### The row's step -/
set_option maxRecDepth 100000 in
theorem lifted (os : Os) (started : os.Started) (H : Type) (enc : TypeId × Value → H) :
    ReturnsInHanded {} Try.checked os 5 .any (Rows.aluConstsSpec.pre6 enc Try.prog Try.f5 Rows.aluConstsRow.domain false) (Rows.aluConstsSpec.post enc Try.prog Try.f5 false true false false) := by
  refine returnsInHanded_of_change (C := Try.checked) own started (by kernel_rfl) Try.func5
    (ChangeSpec.witness6 (enc := enc) (C := Try.checked) false ⟨#[], #[.int .i64 0, .int .u32 0, .int .u32 0], []⟩ 8 (by kernel_rfl) (by kernel_rfl) (by kernel_rfl) (by kernel_rfl)) ?_
  intro W base args ds gs before hval0 hW hcnd _
  have hval : ∀ (j : Nat) t v, Try.f5.params[j]? = some t → args[j]? = some v → Value.okWide Try.prog W .any base t v := hval0
  have hW' := hW
  obtain ⟨p, q, hA0, hV, rfl, hfz, hnd⟩ := hW
  have hA : DataW.TrodAll enc Try.prog W 0 (fun _ => true) true Try.f5.params.toList args.toList ds p := hA0
  rw [Try.params5] at hA hval
  obtain ⟨v0, vs0, d0, ds0, p0, q0, hargs, rfl, rfl, h0, r0⟩ := trodAll_cons hA
  obtain ⟨v1, vs1, d1, ds1, p1, q1, rfl, rfl, rfl, h1, r1⟩ := trodAll_cons r0
  obtain ⟨v2, vs2, d2, ds2, p2, q2, rfl, rfl, rfl, h2, r2⟩ := trodAll_cons r1
  obtain ⟨rfl, rfl, rfl⟩ := trodAll_nil r2
  obtain rfl : args = #[v0, v1, v2] := by cases args; simp_all
  obtain ⟨rfl, rfl⟩ := trodVars_none hV
  obtain ⟨a0, rfl, rfl, rfl, w0⟩ := open_int Try.underlying3 (hval 0 3 v0 rfl rfl) h0
  obtain ⟨a1, rfl, rfl, rfl, w1⟩ := open_int Try.underlying24 (hval 1 24 v1 rfl rfl) h1
  obtain ⟨a2, rfl, rfl, rfl, w2⟩ := open_int Try.underlying24 (hval 2 24 v2 rfl rfl) h2
  clear hA0 hval0
  refine (walk a0 w0 a1 w1 a2 w2 W).mono fun e W' ⟨he, bel⟩ => ?_
  subst he
  exact ⟨_, rfl, _, _, _, [], _, [], hW', trodAll_mk1 (shut_bool Try.underlying4 _), (trodAll_cons_mk (shut_int Try.underlying3 w0) (trodAll_cons_mk (shut_int Try.underlying24 w1) (trodAll_cons_mk (shut_int Try.underlying24 w2) trodAll_mk0))), rfl, bel.frame _, fun h => by cases h⟩

theorem over : Rows.AluConstsSaid :=
  OpenClaim.holds_of_wide 5 Try.f5 rfl rfl rfl rfl rfl rfl rfl ⟨rfl, rfl, rfl, rfl, rfl⟩ rfl rfl rfl rfl rfl (by kernel_rfl) Try.func5 (by kernel_rfl)
    (of_decide_eq_true (by kernel_rfl)) (by unfold Func.isWrapper; first | (rw [if_pos (by decide +kernel)]; kernel_rfl) | (rw [if_neg (by decide +kernel)]; exact ⟨rfl, rfl⟩))
    (fun os started H enc _ => lifted os started H enc)
end Go.Proofs.Ytgcifbamfdahdaa.aluConsts

namespace Go.Proofs.Ytgcifbamfdahdaa
theorem AluConsts_holds : Rows.AluConstsSaid := aluConsts.over
#print axioms AluConsts_holds
end Go.Proofs.Ytgcifbamfdahdaa
