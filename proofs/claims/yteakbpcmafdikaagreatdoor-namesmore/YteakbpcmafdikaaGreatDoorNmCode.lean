/- The plain arithmetic of layer 2: which registers and numbers an operation has, when an instruction is right, its word. No condition. What each function of layer 2 returns: one contract a function. What code.read and code.Get return: one contract a function. The plain arithmetic of words and instructions, class by class: which words are instructions', and what stands in them. -/
import Derived.Test.YteakbpcmafdikaaGreatDoorNmBase
import Derived.Laws.BitsAllLaws
import Derived.Deep.RegionWith
import Derived.WalkSmall
namespace Go.Proofs.YteakbpcmafdikaaGreatDoor
open Go.RowKit
set_option linter.unusedVariables false

/-- How many registers an operation has. -/
def regsOf (op : Int) : Int := if op = 0 ∨ op = 9 ∨ op = 22 ∨ op = 23 then 1 else if 1 ≤ op ∧ op ≤ 7 then 3 else if op = 8 ∨ 10 ≤ op ∧ op ≤ 18 then 2 else 0
/-- How many bits its number has. -/
def widthOf (op : Int) : Int := if 8 ≤ op ∧ op ≤ 14 then 16 else if 15 ≤ op ∧ op ≤ 18 then 8 else if op = 19 ∨ op = 20 then 24 else 0
/-- Is its number signed? -/
def signedOf (op : Int) : Bool := decide (op = 8 ∨ 11 ≤ op ∧ op ≤ 20)
/-- May r stand where an operation has a register, or hasn't one? -/
def regB (r : Int) (has : Bool) : Bool := if has = true then decide (0 ≤ r ∧ r < 16) else decide (r = 0)
/-- May an operation of that width have the number? -/
def immB (imm width : Int) (signed : Bool) : Bool := if signed = true then fitsB imm width else decide (imm / 2 ^ width.toNat = 0)
/-- Is the instruction right? -/
def rightB (op a b c imm : Int) : Bool :=
  decide (0 ≤ op ∧ op < 26) && regB a (decide (0 < regsOf op)) && regB b (decide (1 < regsOf op)) && regB c (decide (2 < regsOf op)) && immB imm (widthOf op) (signedOf op)
/-- The number that stands in a word's lowest bits. -/
def immZ (w width : Int) (signed : Bool) : Int := if signed = true then signZ w width else cutZ w width
/-- An instruction's word. -/
def putZ (op a b c imm : Int) : Int := op * 16777216 + a * 1048576 + b * 65536 + c + cutZ imm (widthOf op)

theorem right_regs (op a b c imm : Int) (h : rightB op a b c imm = true) : 0 ≤ a ∧ a < 16 ∧ 0 ≤ b ∧ b < 16 ∧ 0 ≤ c ∧ c < 16 := by
  simp only [rightB, Bool.and_eq_true] at h
  obtain ⟨⟨⟨⟨_, ha⟩, hb⟩, hc⟩, _⟩ := h
  unfold regB at ha hb hc
  refine ⟨?_, ?_, ?_, ?_, ?_, ?_⟩
  all_goals split at ha <;> split at hb <;> split at hc <;> simp at ha hb hc <;> omega
theorem cut_0 (x : Int) : cutZ x 0 = 0 := cut_out x 0 (by omega)
theorem cut_8 (x : Int) : cutZ x 8 = x % 256 := by unfold cutZ; rw [if_pos (by omega)]; rfl
theorem cut_16 (x : Int) : cutZ x 16 = x % 65536 := by unfold cutZ; rw [if_pos (by omega)]; rfl
theorem cut_24 (x : Int) : cutZ x 24 = x % 16777216 := by unfold cutZ; rw [if_pos (by omega)]; rfl

/-- The four kinds of operations, by their numbers' widths. -/
theorem kinds (op : Int) (h0 : 0 ≤ op) (h1 : op < 26) :
    (widthOf op = 0 ∧ (op ≤ 7 ∨ 21 ≤ op)) ∨ (widthOf op = 16 ∧ regsOf op ≤ 2 ∧ 8 ≤ op ∧ op ≤ 14) ∨ (widthOf op = 8 ∧ regsOf op = 2 ∧ 15 ≤ op ∧ op ≤ 18) ∨ (widthOf op = 24 ∧ regsOf op = 0 ∧ (op = 19 ∨ op = 20)) := by
  unfold widthOf regsOf
  by_cases g1 : 8 ≤ op ∧ op ≤ 14
  · rw [if_pos g1]; right; left
    refine ⟨rfl, ?_, by omega, by omega⟩
    repeat' split
    all_goals omega
  rw [if_neg g1]
  by_cases g2 : 15 ≤ op ∧ op ≤ 18
  · rw [if_pos g2]; right; right; left
    refine ⟨rfl, ?_, by omega, by omega⟩
    repeat' split
    all_goals omega
  rw [if_neg g2]
  by_cases g3 : op = 19 ∨ op = 20
  · rw [if_pos g3]; right; right; right
    refine ⟨rfl, ?_, g3⟩
    repeat' split
    all_goals omega
  rw [if_neg g3]; left
  exact ⟨rfl, by omega⟩

/-- What a right instruction's registers are where it has none. -/
theorem right_none (op a b c imm : Int) (h : rightB op a b c imm = true) : (regsOf op ≤ 2 → c = 0) ∧ (regsOf op ≤ 1 → b = 0) ∧ (regsOf op ≤ 0 → a = 0) := by
  simp only [rightB, Bool.and_eq_true] at h
  obtain ⟨⟨⟨⟨_, ha⟩, hb⟩, hc⟩, _⟩ := h
  unfold regB at ha hb hc
  refine ⟨fun g => ?_, fun g => ?_, fun g => ?_⟩
  · rw [if_neg (by simp; omega)] at hc; simpa using hc
  · rw [if_neg (by simp; omega)] at hb; simpa using hb
  · rw [if_neg (by simp; omega)] at ha; simpa using ha

theorem or_add (j : Nat) (x y : Int) (x0 : 0 ≤ x) (hd : x % 2 ^ j = 0) (y0 : 0 ≤ y) (y1 : y < 2 ^ j) (x2 : x < 4294967296) (y2 : y < 4294967296) : bits BinOp.or IntKind.u32 x y = x + y := by
  obtain ⟨x, rfl⟩ := Int.eq_ofNat_of_zero_le x0
  obtain ⟨y, rfl⟩ := Int.eq_ofNat_of_zero_le y0
  have e : ((2 ^ j : Nat) : Int) = 2 ^ j := by simp
  rw [← e] at hd y1
  rw [u32_or_nat x y (by omega) (by omega), nat_join j x y (by exact_mod_cast hd) (by omega)]
  omega

theorem put_eq (op a b c imm : Int) (h : rightB op a b c imm = true) :
    bits BinOp.or IntKind.u32 (bits BinOp.or IntKind.u32 (bits BinOp.or IntKind.u32 (op * 16777216) (a * 1048576)) (b * 65536)) (bits BinOp.or IntKind.u32 c (cutZ imm (widthOf op))) = putZ op a b c imm := by
  obtain ⟨a0, a1, b0, b1, c0, c1⟩ := right_regs _ _ _ _ _ h
  obtain ⟨n1, n2, n3⟩ := right_none _ _ _ _ _ h
  have hop : 0 ≤ op ∧ op < 26 := by simp [rightB] at h; omega
  obtain ⟨o0, o1⟩ := hop
  clear h
  have e1 : bits BinOp.or IntKind.u32 (op * 16777216) (a * 1048576) = op * 16777216 + a * 1048576 :=
    or_add 24 _ _ (by omega) (by omega) (by omega) (by omega) (by omega) (by omega)
  have e2 : bits BinOp.or IntKind.u32 (op * 16777216 + a * 1048576) (b * 65536) = op * 16777216 + a * 1048576 + b * 65536 :=
    or_add 20 _ _ (by omega) (by omega) (by omega) (by omega) (by omega) (by omega)
  rw [e1, e2]
  unfold putZ
  rcases kinds op o0 o1 with ⟨hw, _⟩ | ⟨hw, hr, _, _⟩ | ⟨hw, hr, _, _⟩ | ⟨hw, hr, _⟩
  · rw [hw, cut_0]
    have e3 : bits BinOp.or IntKind.u32 c 0 = c + 0 := or_add 0 _ _ (by omega) (by omega) (by omega) (by omega) (by omega) (by omega)
    rw [e3, or_add 16 _ _ (by omega) (by omega) (by omega) (by omega) (by omega) (by omega)]; omega
  · rw [hw, cut_16, n1 hr]
    have e3 : bits BinOp.or IntKind.u32 0 (imm % 65536) = 0 + imm % 65536 := or_add 16 _ _ (by omega) (by omega) (by omega) (by omega) (by omega) (by omega)
    rw [e3, or_add 16 _ _ (by omega) (by omega) (by omega) (by omega) (by omega) (by omega)]; omega
  · rw [hw, cut_8, n1 (by omega)]
    have e3 : bits BinOp.or IntKind.u32 0 (imm % 256) = 0 + imm % 256 := or_add 8 _ _ (by omega) (by omega) (by omega) (by omega) (by omega) (by omega)
    rw [e3, or_add 16 _ _ (by omega) (by omega) (by omega) (by omega) (by omega) (by omega)]; omega
  · rw [hw, cut_24, n1 (by omega), n2 (by omega), n3 (by omega)]
    have e3 : bits BinOp.or IntKind.u32 0 (imm % 16777216) = 0 + imm % 16777216 := or_add 24 _ _ (by omega) (by omega) (by omega) (by omega) (by omega) (by omega)
    rw [e3, or_add 24 _ _ (by omega) (by omega) (by omega) (by omega) (by omega) (by omega)]; omega

/-! ### Right, class by class -/
theorem fits_8 (x : Int) : fitsB x 8 = decide (-128 ≤ x ∧ x ≤ 127) := by
  unfold fitsB; rw [Bool.eq_iff_iff]; simp only [decide_eq_true_eq, show ((8 : Int).toNat - 1) = 7 from rfl, show (2 : Int) ^ 7 = 128 from rfl]; omega
theorem fits_16 (x : Int) : fitsB x 16 = decide (-32768 ≤ x ∧ x ≤ 32767) := by
  unfold fitsB; rw [Bool.eq_iff_iff]; simp only [decide_eq_true_eq, show ((16 : Int).toNat - 1) = 15 from rfl, show (2 : Int) ^ 15 = 32768 from rfl]; omega
theorem fits_24 (x : Int) : fitsB x 24 = decide (-8388608 ≤ x ∧ x ≤ 8388607) := by
  unfold fitsB; rw [Bool.eq_iff_iff]; simp only [decide_eq_true_eq, show ((24 : Int).toNat - 1) = 23 from rfl, show (2 : Int) ^ 23 = 8388608 from rfl]; omega
theorem imm_0 (x : Int) : immB x 0 false = decide (x = 0) := by unfold immB; simp
theorem imm_16u (x : Int) : immB x 16 false = decide (0 ≤ x ∧ x ≤ 65535) := by
  unfold immB; rw [if_neg (by decide), Bool.eq_iff_iff]; simp only [decide_eq_true_eq, show (2 : Int) ^ (16 : Int).toNat = 65536 from rfl]; omega
theorem imm_8 (x : Int) : immB x 8 true = decide (-128 ≤ x ∧ x ≤ 127) := by unfold immB; rw [if_pos rfl, fits_8]
theorem imm_16 (x : Int) : immB x 16 true = decide (-32768 ≤ x ∧ x ≤ 32767) := by unfold immB; rw [if_pos rfl, fits_16]
theorem imm_24 (x : Int) : immB x 24 true = decide (-8388608 ≤ x ∧ x ≤ 8388607) := by unfold immB; rw [if_pos rfl, fits_24]
/-- What an operation of a kind has: so many registers, a number of such a width, signed or not. -/
def Has (op r wd : Int) (s : Bool) : Prop := regsOf op = r ∧ widthOf op = wd ∧ signedOf op = s
theorem has_three (op : Int) (h : 1 ≤ op ∧ op ≤ 7) : Has op 3 0 false := by
  rcases (by omega : op = 1 ∨ op = 2 ∨ op = 3 ∨ op = 4 ∨ op = 5 ∨ op = 6 ∨ op = 7) with rfl | rfl | rfl | rfl | rfl | rfl | rfl <;> exact ⟨rfl, rfl, rfl⟩
theorem has_near (op : Int) (h : op = 8 ∨ 11 ≤ op ∧ op ≤ 14) : Has op 2 16 true := by
  rcases (by omega : op = 8 ∨ op = 11 ∨ op = 12 ∨ op = 13 ∨ op = 14) with rfl | rfl | rfl | rfl | rfl <;> exact ⟨rfl, rfl, rfl⟩
theorem has_ori : Has 10 2 16 false := ⟨rfl, rfl, rfl⟩
theorem has_branch (op : Int) (h : 15 ≤ op ∧ op ≤ 18) : Has op 2 8 true := by
  rcases (by omega : op = 15 ∨ op = 16 ∨ op = 17 ∨ op = 18) with rfl | rfl | rfl | rfl <;> exact ⟨rfl, rfl, rfl⟩
theorem has_high : Has 9 1 16 false := ⟨rfl, rfl, rfl⟩
theorem has_one (op : Int) (h : op = 0 ∨ op = 22 ∨ op = 23) : Has op 1 0 false := by
  rcases h with rfl | rfl | rfl <;> exact ⟨rfl, rfl, rfl⟩
theorem has_far (op : Int) (h : op = 19 ∨ op = 20) : Has op 0 24 true := by
  rcases h with rfl | rfl <;> exact ⟨rfl, rfl, rfl⟩
theorem has_none (op : Int) (h : op = 21 ∨ op = 24 ∨ op = 25) : Has op 0 0 false := by
  rcases h with rfl | rfl | rfl <;> exact ⟨rfl, rfl, rfl⟩
theorem right_of (op a b c imm r wd : Int) (s : Bool) (h0 : 0 ≤ op) (h1 : op < 26) (h : Has op r wd s) :
    rightB op a b c imm = (regB a (decide (0 < r)) && regB b (decide (1 < r)) && regB c (decide (2 < r)) && immB imm wd s) := by
  obtain ⟨e1, e2, e3⟩ := h
  unfold rightB
  rw [e1, e2, e3, decide_eq_true (And.intro h0 h1), Bool.true_and]
theorem reg_yes (r : Int) : regB r true = decide (0 ≤ r ∧ r ≤ 15) := by unfold regB; rw [if_pos rfl, Bool.eq_iff_iff]; simp only [decide_eq_true_eq]; omega
theorem reg_no (r : Int) : regB r false = decide (r = 0) := by unfold regB; rw [if_neg (by decide)]
theorem right_out (op a b c imm : Int) (h : op < 0 ∨ 26 ≤ op) : rightB op a b c imm = false := by
  unfold rightB; rw [decide_eq_false (by omega)]; rfl
theorem right_three (op a b c imm : Int) (h : 1 ≤ op ∧ op ≤ 7) : rightB op a b c imm = decide (0 ≤ a ∧ a ≤ 15 ∧ 0 ≤ b ∧ b ≤ 15 ∧ 0 ≤ c ∧ c ≤ 15 ∧ imm = 0) := by
  rw [right_of _ _ _ _ _ _ _ _ (by omega) (by omega) (has_three op h), Bool.eq_iff_iff]; simp [reg_yes, imm_0]; omega
theorem right_near (op a b c imm : Int) (h : op = 8 ∨ 11 ≤ op ∧ op ≤ 14) : rightB op a b c imm = decide (0 ≤ a ∧ a ≤ 15 ∧ 0 ≤ b ∧ b ≤ 15 ∧ c = 0 ∧ -32768 ≤ imm ∧ imm ≤ 32767) := by
  rw [right_of _ _ _ _ _ _ _ _ (by omega) (by omega) (has_near op h), Bool.eq_iff_iff]; simp [reg_yes, reg_no, imm_16]; omega
theorem right_ori (a b c imm : Int) : rightB 10 a b c imm = decide (0 ≤ a ∧ a ≤ 15 ∧ 0 ≤ b ∧ b ≤ 15 ∧ c = 0 ∧ 0 ≤ imm ∧ imm ≤ 65535) := by
  rw [right_of _ _ _ _ _ _ _ _ (by omega) (by omega) has_ori, Bool.eq_iff_iff]; simp [reg_yes, reg_no, imm_16u]; omega
theorem right_branch (op a b c imm : Int) (h : 15 ≤ op ∧ op ≤ 18) : rightB op a b c imm = decide (0 ≤ a ∧ a ≤ 15 ∧ 0 ≤ b ∧ b ≤ 15 ∧ c = 0 ∧ -128 ≤ imm ∧ imm ≤ 127) := by
  rw [right_of _ _ _ _ _ _ _ _ (by omega) (by omega) (has_branch op h), Bool.eq_iff_iff]; simp [reg_yes, reg_no, imm_8]; omega
theorem right_high (a b c imm : Int) : rightB 9 a b c imm = decide (0 ≤ a ∧ a ≤ 15 ∧ b = 0 ∧ c = 0 ∧ 0 ≤ imm ∧ imm ≤ 65535) := by
  rw [right_of _ _ _ _ _ _ _ _ (by omega) (by omega) has_high, Bool.eq_iff_iff]; simp [reg_yes, reg_no, imm_16u]; omega
theorem right_one (op a b c imm : Int) (h : op = 0 ∨ op = 22 ∨ op = 23) : rightB op a b c imm = decide (0 ≤ a ∧ a ≤ 15 ∧ b = 0 ∧ c = 0 ∧ imm = 0) := by
  rw [right_of _ _ _ _ _ _ _ _ (by omega) (by omega) (has_one op h), Bool.eq_iff_iff]; simp [reg_yes, reg_no, imm_0]; omega
theorem right_far (op a b c imm : Int) (h : op = 19 ∨ op = 20) : rightB op a b c imm = decide (a = 0 ∧ b = 0 ∧ c = 0 ∧ -8388608 ≤ imm ∧ imm ≤ 8388607) := by
  rw [right_of _ _ _ _ _ _ _ _ (by omega) (by omega) (has_far op h), Bool.eq_iff_iff]; simp [reg_no, imm_24]; omega
theorem right_no (op a b c imm : Int) (h : op = 21 ∨ op = 24 ∨ op = 25) : rightB op a b c imm = decide (a = 0 ∧ b = 0 ∧ c = 0 ∧ imm = 0) := by
  rw [right_of _ _ _ _ _ _ _ _ (by omega) (by omega) (has_none op h), Bool.eq_iff_iff]; simp [reg_no, imm_0]; omega
open Go.ChangeShapes Go.WideShapes Go.ChangeAt Go.RowKit
set_option linter.unusedVariables false

/-- The table of what operations have, as it lies in the program's first variable. -/
def Tab (w : World) : Prop := ∀ k : Nat, k < 26 → w.cell? ⟨0, k * 3, none⟩ = some (.int .i64 (regsOf k)) ∧ w.cell? ⟨0, k * 3 + 1, none⟩ = some (.int .i64 (widthOf k)) ∧ w.cell? ⟨0, k * 3 + 2, none⟩ = some (.bool (signedOf k))
theorem Tab.size {w : World} (h : Tab w) : 0 < w.heap.size := World.block_lt_of_cell? _ _ (h 0 (by omega)).1
theorem Tab.later {w w' : World} (h : Tab w) (hb : Below w.heap.size w w') : Tab w' := fun k hk => ⟨cell_later hb (h k hk).1, cell_later hb (h k hk).2.1, cell_later hb (h k hk).2.2⟩

theorem rreg_any (r : Int) (has : Bool) (w : World) :
    Calls Tryz.prog 162 #[.int .i64 r, .bool has] w fun e w' => e = .returned (.bool (regB r has)) ∧ w' = w := by
  cases has
  · go_enter Tryz.func162, Tryz.ntmps162
    go_wp2
    go_ret
    exact ⟨ret_bool (by simp [regB, Bool.beq_eq_decide_eq]), rfl⟩
  · by_cases h0 : 0 ≤ r
    · go_enter Tryz.func162, Tryz.ntmps162
      go_wp2
      go_ret
      exact ⟨ret_bool (by simp [regB, h0]), rfl⟩
    · go_enter Tryz.func162, Tryz.ntmps162
      go_wp2
      go_ret
      exact ⟨ret_bool (by simp [regB]; omega), rfl⟩

theorem rimm_any (imm r n : Int) (s : Bool) (w : World) (n0 : 0 ≤ n) (n1 : n ≤ 32) :
    Calls Tryz.prog 163 #[.int .i64 imm, .agg #[.int .i64 r, .int .i64 n, .bool s]] w fun e w' => e = .returned (.bool (immB imm n s)) ∧ Below w.heap.size w w' := by
  cases s
  · go_enter Tryz.func163, Tryz.ntmps163
    go_wp2
    go_ret
    exact ⟨ret_bool (by simp [immB, Bool.beq_eq_decide_eq]), (Below.refl _ _).alloc (Nat.le_refl _) _⟩
  · go_enter Tryz.func163, Tryz.ntmps163
    go_wp2_with (go_at_call 165; refine (fits_any _ _ _).mono ?_; rintro e w' ⟨rfl, rfl⟩)
    go_ret
    exact ⟨ret_bool (by simp [immB]), (Below.refl _ _).alloc (Nat.le_refl _) _⟩

theorem readImm_any (x r n : Int) (s : Bool) (w : World) (x0 : 0 ≤ x) (x1 : x < 4294967296) :
    Calls Tryz.prog 156 #[.int .u32 x, .agg #[.int .i64 r, .int .i64 n, .bool s]] w fun e w' => e = .returned (.int .i64 (immZ x n s)) ∧ Below w.heap.size w w' := by
  cases s
  · obtain ⟨u0, u1⟩ := cut_bd x n
    go_enter Tryz.func156, Tryz.ntmps156
    go_wp2_with (go_at_call 159; refine (cut_any _ _ _).mono ?_; rintro e w' ⟨rfl, rfl⟩)
    go_ret
    exact ⟨ret_int (by simp [immZ]), (Below.refl _ _).alloc (Nat.le_refl _) _⟩
  · go_enter Tryz.func156, Tryz.ntmps156
    go_wp2_with (go_at_call 161; refine (sign_any _ _ _ x0 x1).mono ?_; rintro e w' ⟨rfl, rfl⟩)
    go_ret
    exact ⟨ret_int (by simp [immZ]), (Below.refl _ _).alloc (Nat.le_refl _) _⟩

theorem register_any (x p : Int) (w : World) (x0 : 0 ≤ x) (x1 : x < 4294967296) (p0 : 0 ≤ p) (p1 : p < 32) :
    Calls Tryz.prog 157 #[.int .u32 x, .int .i64 p] w fun e w' => e = .returned (.int .i64 (x / 2 ^ p.toNat % 16)) ∧ w' = w := by
  have hp : (0 : Int) < 2 ^ p.toNat := Int.pow_pos (by decide)
  have q0 : 0 ≤ x / 2 ^ p.toNat := Int.ediv_nonneg x0 (by omega)
  have q1 : x / 2 ^ p.toNat < 4294967296 := by have := Int.ediv_le_self (2 ^ p.toNat) x0; omega
  go_enter Tryz.func157, Tryz.ntmps157
  go_wp2
  go_ret
  exact ⟨rfl, rfl⟩

theorem index3_0 (a b c : Int) (w : World) : (Instr.index 219 (.agg #[.int .i64 a, .int .i64 b, .int .i64 c]) (.int .i64 0)).run Tryz.prog w = .ok (.int .i64 a) w := by kernel_rfl
theorem index3_1 (a b c : Int) (w : World) : (Instr.index 219 (.agg #[.int .i64 a, .int .i64 b, .int .i64 c]) (.int .i64 1)).run Tryz.prog w = .ok (.int .i64 b) w := by kernel_rfl
theorem index3_2 (a b c : Int) (w : World) : (Instr.index 219 (.agg #[.int .i64 a, .int .i64 b, .int .i64 c]) (.int .i64 2)).run Tryz.prog w = .ok (.int .i64 c) w := by kernel_rfl
theorem right_any (op a b c imm : Int) (w : World) (hT : Tab w) :
    Calls Tryz.prog 158 #[.agg #[.int .i64 op, .int .i64 a, .int .i64 b, .int .i64 c, .int .i64 imm]] w fun e w' => e = .returned (.bool (rightB op a b c imm)) ∧ Below w.heap.size w w' := by
  by_cases h0 : op < 0
  · go_enter Tryz.func158, Tryz.ntmps158
    go_wp2
    go_ret
    exact ⟨ret_bool (by simp [rightB]; omega), (Below.refl _ _).alloc (Nat.le_refl _) _⟩
  by_cases h1 : 26 ≤ op
  · go_enter Tryz.func158, Tryz.ntmps158
    go_wp2
    go_ret
    exact ⟨ret_bool (by simp [rightB]; omega), (Below.refl _ _).alloc (Nat.le_refl _) _⟩
  obtain ⟨k, rfl⟩ := Int.eq_ofNat_of_zero_le (a := op) (by omega)
  obtain ⟨t0, t1, t2⟩ := hT k (by omega)
  have hz := hT.size
  have hk : k < 26 := by omega
  have R : Hid (rightB k a b c imm = (regB a (decide (0 < regsOf k)) && regB b (decide (1 < regsOf k)) && regB c (decide (2 < regsOf k)) && immB imm (widthOf k) (signedOf k))) := by
    have e : decide (0 ≤ (k : Int) ∧ (k : Int) < 26) = true := by simp; omega
    unfold Hid rightB; rw [e, Bool.true_and]
  have W0 : 0 ≤ widthOf k ∧ widthOf k ≤ 32 := by unfold widthOf; repeat' split <;> omega
  obtain ⟨n0, n1⟩ := W0
  generalize regsOf k = rg at *
  generalize widthOf k = wd at *
  generalize signedOf k = sg at *
  have i0 := fun w => index3_0 a b c w
  have i1 := fun w => index3_1 a b c w
  have i2 := fun w => index3_2 a b c w
  clear hT h0 h1
  go_enter Tryz.func158, Tryz.ntmps158
  go_wp2
  go_loop [4, 5, 25] (fun u v i => ∃ k : Nat, k ≤ 3 ∧ i = .int .i64 k ∧ Hid ((1 ≤ k → regB a (decide (0 < rg)) = true) ∧ (2 ≤ k → regB b (decide (1 < rg)) = true) ∧ (3 ≤ k → regB c (decide (2 < rg)) = true))) (fun _ _ i => 3 - (intOf i).toNat)
  case atStart => exact ⟨0, by omega, rfl, by omega, by omega, by omega⟩
  case round =>
    obtain ⟨j, hj, rfl, HP⟩ := hrel
    rcases (by omega : j = 0 ∨ j = 1 ∨ j = 2 ∨ j = 3) with rfl | rfl | rfl | rfl
    · go_wp2_with (go_at_call 162; refine (rreg_any _ _ _).mono ?_; rintro e w' ⟨rfl, rfl⟩)
      · rename_i hq
        go_ret
        exact ⟨ret_bool (by rw [R.out]; simp_all), ((Below.refl _ _).alloc (Nat.le_refl _) _).alloc (by simp) _⟩
      · rename_i hq
        go_round
        case rel => exact ⟨1, by omega, rfl, by simp_all [Hid]⟩
        case measure => simp [intOf]
    · go_wp2_with (go_at_call 162; refine (rreg_any _ _ _).mono ?_; rintro e w' ⟨rfl, rfl⟩)
      · rename_i hq
        go_ret
        exact ⟨ret_bool (by rw [R.out]; simp_all), ((Below.refl _ _).alloc (Nat.le_refl _) _).alloc (by simp) _⟩
      · rename_i hq
        go_round
        case rel => exact ⟨2, by omega, rfl, by simp_all [Hid]⟩
        case measure => simp [intOf]
    · go_wp2_with (go_at_call 162; refine (rreg_any _ _ _).mono ?_; rintro e w' ⟨rfl, rfl⟩)
      · rename_i hq
        go_ret
        exact ⟨ret_bool (by rw [R.out]; simp_all), ((Below.refl _ _).alloc (Nat.le_refl _) _).alloc (by simp) _⟩
      · rename_i hq
        go_round
        case rel => exact ⟨3, by omega, rfl, by simp_all [Hid]⟩
        case measure => simp [intOf]
    · go_wp2_with (go_at_call 163; refine (rimm_any _ _ _ _ _ n0 n1).mono ?_; rintro e w' ⟨rfl, hb⟩)
      go_ret
      exact ⟨ret_bool (by rw [R.out]; simp_all [Hid]), (((Below.refl _ _).alloc (Nat.le_refl _) _).alloc (by simp) _).trans (hb.mono (by simp; omega))⟩

theorem put_not (op a b c imm : Int) (w : World) (hT : Tab w) (hr : rightB op a b c imm = false) :
    Calls Tryz.prog 148 #[.agg #[.int .i64 op, .int .i64 a, .int .i64 b, .int .i64 c, .int .i64 imm]] w fun e w' => e = .returned (.tuple #[.int .u32 0, .int .i64 3]) ∧ Below w.heap.size w w' := by
  have H : Hid (∀ wx, Tab wx → _) := fun wx hx => right_any op a b c imm wx hx
  have hz := hT.size
  go_enter Tryz.func148, Tryz.ntmps148
  go_wp2_with (go_at_call 158; refine (right_any op a b c imm _ (hT.later ((Below.refl _ _).alloc (Nat.le_refl _) _))).mono ?_; rintro e w' ⟨rfl, hb⟩; rw [hr])
  go_ret2
  exact ⟨rfl, ((Below.refl _ _).alloc (Nat.le_refl _) _).trans (hb.mono (by simp))⟩
/-- A cell of a new block. -/
theorem new_cell (w : World) (cs : Array Value) (t : TypeId) (i : Nat) (v : Value) (h : cs[i]? = some v) : (w.alloc (.cells cs t)).cell? ⟨w.heap.size, i, none⟩ = some v := by simp [go_sem, h]
theorem put_yes (op a b c imm : Int) (w : World) (hT : Tab w) (hr : rightB op a b c imm = true) :
    Calls Tryz.prog 148 #[.agg #[.int .i64 op, .int .i64 a, .int .i64 b, .int .i64 c, .int .i64 imm]] w fun e w' => e = .returned (.tuple #[.int .u32 (putZ op a b c imm), .int .i64 0]) ∧ Below w.heap.size w w' := by
  have hop : 0 ≤ op ∧ op < 26 := by simp [rightB] at hr; omega
  obtain ⟨k, rfl⟩ := Int.eq_ofNat_of_zero_le (a := op) (by omega)
  have hk : k < 26 := by omega
  have hz := hT.size
  obtain ⟨a0, a1, b0, b1, c0, c1⟩ := right_regs _ _ _ _ _ hr
  go_enter Tryz.func148, Tryz.ntmps148
  go_wp2_with fail
  have hB : Below w.heap.size w (w.alloc (.cells #[.int .i64 k, .int .i64 a, .int .i64 b, .int .i64 c, .int .i64 imm] 112)) := (Below.refl _ _).alloc (Nat.le_refl _) _
  refine (right_any k a b c imm _ (hT.later hB)).mono ?_
  rintro e w1 ⟨rfl, hb⟩
  have hB1 : Below w.heap.size w w1 := hB.trans (hb.mono (by simp))
  obtain ⟨t0, t1, t2⟩ := (hT.later hB1) k hk
  have f0 := (hb.cell (p := ⟨w.heap.size, 0, none⟩) (by simp)).trans (new_cell w _ _ 0 _ rfl)
  have f1 := (hb.cell (p := ⟨w.heap.size, 1, none⟩) (by simp)).trans (new_cell w _ _ 1 _ rfl)
  have f2 := (hb.cell (p := ⟨w.heap.size, 2, none⟩) (by simp)).trans (new_cell w _ _ 2 _ rfl)
  have f3 := (hb.cell (p := ⟨w.heap.size, 3, none⟩) (by simp)).trans (new_cell w _ _ 3 _ rfl)
  have f4 := (hb.cell (p := ⟨w.heap.size, 4, none⟩) (by simp)).trans (new_cell w _ _ 4 _ rfl)
  have HP : Hid (_ = _) := put_eq k a b c imm hr
  have HB1 : Hid (Below w.heap.size w w1) := hB1
  clear hT hB hB1 hb t0 t2
  rw [hr]
  clear hr
  generalize widthOf k = wd at *
  obtain ⟨u0, u1⟩ := cut_bd imm wd
  go_wp2
  go_quiet ((go_at_call 159; exact Calls.quiet_of_same (cut_any _ _ _)))
  go_wp2
  go_ret2
  exact ⟨congrArg (fun x => Ending.returned (.tuple #[.int .u32 x, .int .i64 0])) HP.out, below_drewN HB1.out _⟩
open Go.ChangeShapes Go.WideShapes Go.ChangeAt Go.RowKit
set_option linter.unusedVariables false

/-- A word's fields where an operation has so many registers. -/
def fldA (x r : Int) : Int := if 0 < r then x / 1048576 % 16 else 0
def fldB (x r : Int) : Int := if 1 < r then x / 65536 % 16 else 0
def fldC (x r : Int) : Int := if 2 < r then x % 16 else 0

theorem register_20 (x : Int) (w : World) (x0 : 0 ≤ x) (x1 : x < 4294967296) :
    Calls Tryz.prog 157 #[.int .u32 x, .int .i64 20] w fun e w' => e = .returned (.int .i64 (x / 1048576 % 16)) ∧ w' = w := register_any x 20 w x0 x1 (by omega) (by omega)
theorem register_16 (x : Int) (w : World) (x0 : 0 ≤ x) (x1 : x < 4294967296) :
    Calls Tryz.prog 157 #[.int .u32 x, .int .i64 16] w fun e w' => e = .returned (.int .i64 (x / 65536 % 16)) ∧ w' = w := register_any x 16 w x0 x1 (by omega) (by omega)
theorem register_0 (x : Int) (w : World) (x0 : 0 ≤ x) (x1 : x < 4294967296) :
    Calls Tryz.prog 157 #[.int .u32 x, .int .i64 0] w fun e w' => e = .returned (.int .i64 (x % 16)) ∧ w' = w :=
  (register_any x 0 w x0 x1 (by omega) (by omega)).mono fun e w' ⟨he, hw⟩ => ⟨by rw [he]; exact ret_int (by simp), hw⟩

/-- Two new blocks, as a later world has them. -/
theorem two_new {w w1 : World} {c1 c2 : Array Value} {t1 t2 : TypeId} (hb : Below ((w.alloc (.cells c1 t1)).alloc (.cells c2 t2)).heap.size ((w.alloc (.cells c1 t1)).alloc (.cells c2 t2)) w1) :
    (∀ (i : Nat) v, c1[i]? = some v → w1.cell? ⟨w.heap.size, i, none⟩ = some v) ∧ (∀ (i : Nat) v, c2[i]? = some v → w1.cell? ⟨w.heap.size + 1, i, none⟩ = some v) ∧
    (∀ i : Nat, w1.frozen? ⟨w.heap.size, i, none⟩ = false) ∧ (∀ i : Nat, w1.frozen? ⟨w.heap.size + 1, i, none⟩ = false) ∧ w.heap.size + 1 < w1.heap.size := by
  have e : w.heap.size + 1 = (w.alloc (.cells c1 t1)).heap.size := by simp
  have b2 : Below (w.alloc (.cells c1 t1)).heap.size (w.alloc (.cells c1 t1)) ((w.alloc (.cells c1 t1)).alloc (.cells c2 t2)) := (Below.refl _ _).alloc (Nat.le_refl _) _
  refine ⟨fun i v h => ?_, fun i v h => ?_, fun i => ?_, fun i => ?_, ?_⟩
  · exact (hb.cell (p := ⟨w.heap.size, i, none⟩) (by simp; omega)).trans ((b2.cell (p := ⟨w.heap.size, i, none⟩) (by simp)).trans (by simp [go_sem, h]))
  · rw [e]; exact (hb.cell (p := ⟨(w.alloc (.cells c1 t1)).heap.size, i, none⟩) (by simp)).trans (by simp [go_sem, h])
  · exact (hb.frozen (p := ⟨w.heap.size, i, none⟩) (by simp; omega)).trans ((b2.frozen (p := ⟨w.heap.size, i, none⟩) (by simp)).trans (by simp [go_sem]))
  · rw [e]; exact (hb.frozen (p := ⟨(w.alloc (.cells c1 t1)).heap.size, i, none⟩) (by simp)).trans (by simp [go_sem])
  · have := hb.size; simp at this; omega
theorem five_set {w w1 : World} (h : Below w.heap.size w w1) (u0 u1 u2 u3 u4 : Value) (o : Obj) :
    Below w.heap.size w ((((((w1.setCell ⟨w.heap.size, 0, none⟩ u0).setCell ⟨w.heap.size, 1, none⟩ u1).setCell ⟨w.heap.size, 2, none⟩ u2).setCell ⟨w.heap.size, 3, none⟩ u3).setCell ⟨w.heap.size, 4, none⟩ u4).alloc o) := by
  have h5 := (((((h.setCell (p := ⟨w.heap.size, 0, none⟩) (Nat.le_refl _) u0).setCell (p := ⟨w.heap.size, 1, none⟩) (Nat.le_refl _) u1).setCell (p := ⟨w.heap.size, 2, none⟩) (Nat.le_refl _) u2).setCell (p := ⟨w.heap.size, 3, none⟩) (Nat.le_refl _) u3).setCell (p := ⟨w.heap.size, 4, none⟩) (Nat.le_refl _) u4)
  exact h5.alloc h5.size o
theorem regs_bd (k : Int) : regsOf k = 0 ∨ regsOf k = 1 ∨ regsOf k = 2 ∨ regsOf k = 3 := by unfold regsOf; repeat' split <;> omega

theorem read_any (k : Nat) (x : Int) (w : World) (hk : k < 26) (x0 : 0 ≤ x) (x1 : x < 4294967296) (hT : Tab w) :
    Calls Tryz.prog 147 #[.int .i64 k, .int .u32 x] w fun e w' => e = .returned (.agg #[.int .i64 k, .int .i64 (fldA x (regsOf k)), .int .i64 (fldB x (regsOf k)), .int .i64 (fldC x (regsOf k)), .int .i64 (immZ x (widthOf k) (signedOf k))]) ∧ Below w.heap.size w w' := by
  obtain ⟨t0, t1, t2⟩ := hT k hk
  have hz := hT.size
  have hr := regs_bd k
  have z : ∀ wx, Calls Tryz.prog 156 #[.int .u32 x, .agg #[.int .i64 (regsOf k), .int .i64 (widthOf k), .bool (signedOf k)]] wx fun e w' => e = .returned (.int .i64 (immZ x (widthOf k) (signedOf k))) ∧ Below wx.heap.size wx w' := fun wx => readImm_any x _ _ _ wx x0 x1
  generalize regsOf k = rg at *
  generalize immZ x (widthOf k) (signedOf k) = im at *
  generalize widthOf k = wd at *
  generalize signedOf k = sg at *
  have Z : Hid (∀ wx, Calls Tryz.prog 156 #[.int .u32 x, .agg #[.int .i64 rg, .int .i64 wd, .bool sg]] wx fun e w' => e = .returned (.int .i64 im) ∧ Below wx.heap.size wx w') := z
  clear z hT
  rcases hr with rfl | rfl | rfl | rfl
  · go_enter Tryz.func147, Tryz.ntmps147
    go_wp2_with fail
    refine (Z.out _).mono ?_
    rintro e w1 ⟨rfl, hb⟩
    obtain ⟨hc1, hc2, hf1, hf2, hs⟩ := two_new hb
    have z0 := hc1 0 (.int .i64 0) rfl
    have z1 := hc1 1 (.int .i64 0) rfl
    have z2 := hc1 2 (.int .i64 0) rfl
    have z3 := hc1 3 (.int .i64 0) rfl
    have z4 := hc1 4 (.int .i64 0) rfl
    have s0 := hc2 0 (.int .i64 0) rfl
    have s1 := hc2 1 (.int .i64 wd) rfl
    have s2 := hc2 2 (.bool sg) rfl
    have hs0 : w.heap.size < w1.heap.size := by omega
    clear hc1 hc2
    have hB : Hid (Below w.heap.size w w1) := (((Below.refl _ _).alloc (Nat.le_refl _) _).alloc (by simp) _).trans (hb.mono (by simp; omega))
    clear hb
    go_wp2_with (first
      | (go_at_call_of 157 (Value.int IntKind.i64 20); refine (register_20 x _ x0 x1).mono ?_; rintro e w' ⟨rfl, rfl⟩)
      | (go_at_call_of 157 (Value.int IntKind.i64 16); refine (register_16 x _ x0 x1).mono ?_; rintro e w' ⟨rfl, rfl⟩)
      | (go_at_call_of 157 (Value.int IntKind.i64 0); refine (register_0 x _ x0 x1).mono ?_; rintro e w' ⟨rfl, rfl⟩))
    have hBe : ∀ u0 u1 u2 u3 u4 o, Below w.heap.size w ((((((w1.setCell ⟨w.heap.size, 0, none⟩ u0).setCell ⟨w.heap.size, 1, none⟩ u1).setCell ⟨w.heap.size, 2, none⟩ u2).setCell ⟨w.heap.size, 3, none⟩ u3).setCell ⟨w.heap.size, 4, none⟩ u4).alloc o) := fun u0 u1 u2 u3 u4 o => five_set hB.out _ _ _ _ _ _
    refine bodyPost_ret (v := Value.agg #[.int .i64 k, .int .i64 (fldA x 0), .int .i64 (fldB x 0), .int .i64 (fldC x 0), .int .i64 im]) ?_ rfl ⟨rfl, hBe _ _ _ _ _ _⟩
    simp [results, Tryz.results147, go_sem, fldA, fldB, fldC, z0, z1, z2, z3, z4, hs0]
  · go_enter Tryz.func147, Tryz.ntmps147
    go_wp2_with fail
    refine (Z.out _).mono ?_
    rintro e w1 ⟨rfl, hb⟩
    obtain ⟨hc1, hc2, hf1, hf2, hs⟩ := two_new hb
    have z0 := hc1 0 (.int .i64 0) rfl
    have z1 := hc1 1 (.int .i64 0) rfl
    have z2 := hc1 2 (.int .i64 0) rfl
    have z3 := hc1 3 (.int .i64 0) rfl
    have z4 := hc1 4 (.int .i64 0) rfl
    have s0 := hc2 0 (.int .i64 1) rfl
    have s1 := hc2 1 (.int .i64 wd) rfl
    have s2 := hc2 2 (.bool sg) rfl
    have hs0 : w.heap.size < w1.heap.size := by omega
    clear hc1 hc2
    have hB : Hid (Below w.heap.size w w1) := (((Below.refl _ _).alloc (Nat.le_refl _) _).alloc (by simp) _).trans (hb.mono (by simp; omega))
    clear hb
    go_wp2_with (first
      | (go_at_call_of 157 (Value.int IntKind.i64 20); refine (register_20 x _ x0 x1).mono ?_; rintro e w' ⟨rfl, rfl⟩)
      | (go_at_call_of 157 (Value.int IntKind.i64 16); refine (register_16 x _ x0 x1).mono ?_; rintro e w' ⟨rfl, rfl⟩)
      | (go_at_call_of 157 (Value.int IntKind.i64 0); refine (register_0 x _ x0 x1).mono ?_; rintro e w' ⟨rfl, rfl⟩))
    have hBe : ∀ u0 u1 u2 u3 u4 o, Below w.heap.size w ((((((w1.setCell ⟨w.heap.size, 0, none⟩ u0).setCell ⟨w.heap.size, 1, none⟩ u1).setCell ⟨w.heap.size, 2, none⟩ u2).setCell ⟨w.heap.size, 3, none⟩ u3).setCell ⟨w.heap.size, 4, none⟩ u4).alloc o) := fun u0 u1 u2 u3 u4 o => five_set hB.out _ _ _ _ _ _
    refine bodyPost_ret (v := Value.agg #[.int .i64 k, .int .i64 (fldA x 1), .int .i64 (fldB x 1), .int .i64 (fldC x 1), .int .i64 im]) ?_ rfl ⟨rfl, hBe _ _ _ _ _ _⟩
    simp [results, Tryz.results147, go_sem, fldA, fldB, fldC, z0, z1, z2, z3, z4, hs0]
  · go_enter Tryz.func147, Tryz.ntmps147
    go_wp2_with fail
    refine (Z.out _).mono ?_
    rintro e w1 ⟨rfl, hb⟩
    obtain ⟨hc1, hc2, hf1, hf2, hs⟩ := two_new hb
    have z0 := hc1 0 (.int .i64 0) rfl
    have z1 := hc1 1 (.int .i64 0) rfl
    have z2 := hc1 2 (.int .i64 0) rfl
    have z3 := hc1 3 (.int .i64 0) rfl
    have z4 := hc1 4 (.int .i64 0) rfl
    have s0 := hc2 0 (.int .i64 2) rfl
    have s1 := hc2 1 (.int .i64 wd) rfl
    have s2 := hc2 2 (.bool sg) rfl
    have hs0 : w.heap.size < w1.heap.size := by omega
    clear hc1 hc2
    have hB : Hid (Below w.heap.size w w1) := (((Below.refl _ _).alloc (Nat.le_refl _) _).alloc (by simp) _).trans (hb.mono (by simp; omega))
    clear hb
    go_wp2_with (first
      | (go_at_call_of 157 (Value.int IntKind.i64 20); refine (register_20 x _ x0 x1).mono ?_; rintro e w' ⟨rfl, rfl⟩)
      | (go_at_call_of 157 (Value.int IntKind.i64 16); refine (register_16 x _ x0 x1).mono ?_; rintro e w' ⟨rfl, rfl⟩)
      | (go_at_call_of 157 (Value.int IntKind.i64 0); refine (register_0 x _ x0 x1).mono ?_; rintro e w' ⟨rfl, rfl⟩))
    have hBe : ∀ u0 u1 u2 u3 u4 o, Below w.heap.size w ((((((w1.setCell ⟨w.heap.size, 0, none⟩ u0).setCell ⟨w.heap.size, 1, none⟩ u1).setCell ⟨w.heap.size, 2, none⟩ u2).setCell ⟨w.heap.size, 3, none⟩ u3).setCell ⟨w.heap.size, 4, none⟩ u4).alloc o) := fun u0 u1 u2 u3 u4 o => five_set hB.out _ _ _ _ _ _
    refine bodyPost_ret (v := Value.agg #[.int .i64 k, .int .i64 (fldA x 2), .int .i64 (fldB x 2), .int .i64 (fldC x 2), .int .i64 im]) ?_ rfl ⟨rfl, hBe _ _ _ _ _ _⟩
    simp [results, Tryz.results147, go_sem, fldA, fldB, fldC, z0, z1, z2, z3, z4, hs0]
  · go_enter Tryz.func147, Tryz.ntmps147
    go_wp2_with fail
    refine (Z.out _).mono ?_
    rintro e w1 ⟨rfl, hb⟩
    obtain ⟨hc1, hc2, hf1, hf2, hs⟩ := two_new hb
    have z0 := hc1 0 (.int .i64 0) rfl
    have z1 := hc1 1 (.int .i64 0) rfl
    have z2 := hc1 2 (.int .i64 0) rfl
    have z3 := hc1 3 (.int .i64 0) rfl
    have z4 := hc1 4 (.int .i64 0) rfl
    have s0 := hc2 0 (.int .i64 3) rfl
    have s1 := hc2 1 (.int .i64 wd) rfl
    have s2 := hc2 2 (.bool sg) rfl
    have hs0 : w.heap.size < w1.heap.size := by omega
    clear hc1 hc2
    have hB : Hid (Below w.heap.size w w1) := (((Below.refl _ _).alloc (Nat.le_refl _) _).alloc (by simp) _).trans (hb.mono (by simp; omega))
    clear hb
    go_wp2_with (first
      | (go_at_call_of 157 (Value.int IntKind.i64 20); refine (register_20 x _ x0 x1).mono ?_; rintro e w' ⟨rfl, rfl⟩)
      | (go_at_call_of 157 (Value.int IntKind.i64 16); refine (register_16 x _ x0 x1).mono ?_; rintro e w' ⟨rfl, rfl⟩)
      | (go_at_call_of 157 (Value.int IntKind.i64 0); refine (register_0 x _ x0 x1).mono ?_; rintro e w' ⟨rfl, rfl⟩))
    have hBe : ∀ u0 u1 u2 u3 u4 o, Below w.heap.size w ((((((w1.setCell ⟨w.heap.size, 0, none⟩ u0).setCell ⟨w.heap.size, 1, none⟩ u1).setCell ⟨w.heap.size, 2, none⟩ u2).setCell ⟨w.heap.size, 3, none⟩ u3).setCell ⟨w.heap.size, 4, none⟩ u4).alloc o) := fun u0 u1 u2 u3 u4 o => five_set hB.out _ _ _ _ _ _
    refine bodyPost_ret (v := Value.agg #[.int .i64 k, .int .i64 (fldA x 3), .int .i64 (fldB x 3), .int .i64 (fldC x 3), .int .i64 im]) ?_ rfl ⟨rfl, hBe _ _ _ _ _ _⟩
    simp [results, Tryz.results147, go_sem, fldA, fldB, fldC, z0, z1, z2, z3, z4, hs0]

/-- The fields of a word's instruction. -/
def gO (x : Int) : Int := x / 16777216
def gA (x : Int) : Int := fldA x (regsOf (gO x))
def gB (x : Int) : Int := fldB x (regsOf (gO x))
def gC (x : Int) : Int := fldC x (regsOf (gO x))
def gI (x : Int) : Int := immZ x (widthOf (gO x)) (signedOf (gO x))
/-- Is the word that of an instruction? -/
def okG (x : Int) : Bool := rightB (gO x) (gA x) (gB x) (gC x) (gI x) && putZ (gO x) (gA x) (gB x) (gC x) (gI x) == x
def insV (op a b c imm : Int) : Array Value := #[.int .i64 op, .int .i64 a, .int .i64 b, .int .i64 c, .int .i64 imm]

theorem get_over (x : Int) (w : World) (x0 : 0 ≤ x) (x1 : x < 4294967296) (h : 26 ≤ x / 16777216) :
    Calls Tryz.prog 127 #[.int .u32 x] w fun e w' => e = .returned (.tuple #[.agg (insV 0 0 0 0 0), .int .i64 3]) ∧ Below w.heap.size w w' := by
  go_enter Tryz.func127, Tryz.ntmps127
  go_wp2
  refine bodyPost_ret (v := Value.tuple #[.agg (insV 0 0 0 0 0), .int .i64 3]) ?_ rfl ⟨rfl, (Below.refl _ _).alloc (Nat.le_refl _) _⟩
  simp [results, Tryz.results127, go_sem, insV]
/-- A new block, calls, a second new block, calls: what stands there then. -/
theorem get_cells {w w1 w2 : World} {c1 c2 : Array Value} {t1 t2 : TypeId} (hb1 : Below (w.alloc (.cells c1 t1)).heap.size (w.alloc (.cells c1 t1)) w1) (hb2 : Below (w1.alloc (.cells c2 t2)).heap.size (w1.alloc (.cells c2 t2)) w2) :
    (∀ (i : Nat) v, c1[i]? = some v → w2.cell? ⟨w.heap.size, i, none⟩ = some v) ∧ (∀ (i : Nat) v, c2[i]? = some v → w2.cell? ⟨w1.heap.size, i, none⟩ = some v) ∧
    (∀ i : Nat, w2.frozen? ⟨w.heap.size, i, none⟩ = false) ∧ w.heap.size < w1.heap.size ∧ w1.heap.size < w2.heap.size ∧ Below w.heap.size w w2 := by
  have s1 : w.heap.size < w1.heap.size := by have := hb1.size; simp at this; omega
  have s2 : w1.heap.size < w2.heap.size := by have := hb2.size; simp at this; omega
  have b2 : Below w1.heap.size w1 w2 := ((Below.refl _ _).alloc (Nat.le_refl _) _).trans (hb2.mono (by simp))
  refine ⟨fun i v h => ?_, fun i v h => ?_, fun i => ?_, s1, s2, ?_⟩
  · exact (b2.cell (p := ⟨w.heap.size, i, none⟩) s1).trans ((hb1.cell (p := ⟨w.heap.size, i, none⟩) (by simp)).trans (by simp [go_sem, h]))
  · exact (hb2.cell (p := ⟨w1.heap.size, i, none⟩) (by simp)).trans (by simp [go_sem, h])
  · exact (b2.frozen (p := ⟨w.heap.size, i, none⟩) s1).trans ((hb1.frozen (p := ⟨w.heap.size, i, none⟩) (by simp)).trans (by simp [go_sem]))
  · exact (((Below.refl _ _).alloc (Nat.le_refl _) _).trans (hb1.mono (by simp))).trans (b2.mono (by omega))
theorem five_set' {w w1 : World} (h : Below w.heap.size w w1) (u0 u1 u2 u3 u4 : Value) :
    Below w.heap.size w (((((w1.setCell ⟨w.heap.size, 0, none⟩ u0).setCell ⟨w.heap.size, 1, none⟩ u1).setCell ⟨w.heap.size, 2, none⟩ u2).setCell ⟨w.heap.size, 3, none⟩ u3).setCell ⟨w.heap.size, 4, none⟩ u4) :=
  (((((h.setCell (p := ⟨w.heap.size, 0, none⟩) (Nat.le_refl _) u0).setCell (p := ⟨w.heap.size, 1, none⟩) (Nat.le_refl _) u1).setCell (p := ⟨w.heap.size, 2, none⟩) (Nat.le_refl _) u2).setCell (p := ⟨w.heap.size, 3, none⟩) (Nat.le_refl _) u3).setCell (p := ⟨w.heap.size, 4, none⟩) (Nat.le_refl _) u4)

theorem get_core (x A B C I : Int) (w : World) (x0 : 0 ≤ x) (x1 : x < 4294967296) (h : x / 16777216 < 26) (hT : Tab w)
    (hR : ∀ wx, Tab wx → Calls Tryz.prog 147 #[.int .i64 (x / 16777216), .int .u32 x] wx fun e w' => e = .returned (.agg #[.int .i64 (x / 16777216), .int .i64 A, .int .i64 B, .int .i64 C, .int .i64 I]) ∧ Below wx.heap.size wx w') :
    Calls Tryz.prog 127 #[.int .u32 x] w fun e w' => e = .returned (if (rightB (x / 16777216) A B C I && putZ (x / 16777216) A B C I == x) = true then .tuple #[.agg (insV (x / 16777216) A B C I), .int .i64 0] else .tuple #[.agg (insV 0 0 0 0 0), .int .i64 3]) ∧ Below w.heap.size w w' := by
  have HR : Hid (∀ wx, Tab wx → Calls Tryz.prog 147 #[.int .i64 (x / 16777216), .int .u32 x] wx fun e w' => e = .returned (.agg #[.int .i64 (x / 16777216), .int .i64 A, .int .i64 B, .int .i64 C, .int .i64 I]) ∧ Below wx.heap.size wx w') := hR
  have HT : Hid (Tab w) := hT
  clear hR hT
  by_cases hr : rightB (x / 16777216) A B C I = true
  · by_cases hq : putZ (x / 16777216) A B C I = x
    · have hc : (rightB (x / 16777216) A B C I && putZ (x / 16777216) A B C I == x) = true := by simp [hr, hq]
      rw [if_pos hc]
      clear hc
      go_enter Tryz.func127, Tryz.ntmps127
      go_wp2_with fail
      refine (HR.out _ (HT.out.later ((Below.refl _ _).alloc (Nat.le_refl _) _))).mono ?_
      rintro e w1 ⟨rfl, hb1⟩
      have HB1 : Hid _ := hb1
      have hT1 : Tab w1 := HT.out.later (((Below.refl _ _).alloc (Nat.le_refl _) _).trans (hb1.mono (by simp)))
      have HT1 : Hid (Tab (w1.alloc (.cells #[.int .i64 (x / 16777216), .int .i64 A, .int .i64 B, .int .i64 C, .int .i64 I] 112))) := hT1.later ((Below.refl _ _).alloc (Nat.le_refl _) _)
      clear hT1 hb1
      go_wp2_with fail
      refine (put_yes _ _ _ _ _ _ HT1.out hr).mono ?_
      rintro e w2 ⟨rfl, hb2⟩
      obtain ⟨hc1, hc2, hf, hs1, hs2, hB⟩ := get_cells HB1.out hb2
      have z0 := hc1 0 (.int .i64 0) rfl
      have z1 := hc1 1 (.int .i64 0) rfl
      have z2 := hc1 2 (.int .i64 0) rfl
      have z3 := hc1 3 (.int .i64 0) rfl
      have z4 := hc1 4 (.int .i64 0) rfl
      have y0 := hc2 0 (.int .i64 (x / 16777216)) rfl
      have y1 := hc2 1 (.int .i64 A) rfl
      have y2 := hc2 2 (.int .i64 B) rfl
      have y3 := hc2 3 (.int .i64 C) rfl
      have y4 := hc2 4 (.int .i64 I) rfl
      have HBB : Hid (Below w.heap.size w w2) := hB
      clear hc1 hc2 hb2 hB
      have hqq : (putZ (x / 16777216) A B C I != x) = false := by simp [hq]
      clear hr hq
      generalize putZ (x / 16777216) A B C I = pz at *
      go_wp2
      refine bodyPost_ret (v := Value.tuple #[.agg (insV (x / 16777216) A B C I), .int .i64 0]) ?_ rfl ⟨rfl, five_set' HBB.out _ _ _ _ _⟩
      simp [results, Tryz.results127, go_sem, insV, z0, z1, z2, z3, z4]
    · have hc : ¬ (rightB (x / 16777216) A B C I && putZ (x / 16777216) A B C I == x) = true := by simp [hr, hq]
      rw [if_neg hc]
      clear hc
      go_enter Tryz.func127, Tryz.ntmps127
      go_wp2_with fail
      refine (HR.out _ (HT.out.later ((Below.refl _ _).alloc (Nat.le_refl _) _))).mono ?_
      rintro e w1 ⟨rfl, hb1⟩
      have HB1 : Hid _ := hb1
      have hT1 : Tab w1 := HT.out.later (((Below.refl _ _).alloc (Nat.le_refl _) _).trans (hb1.mono (by simp)))
      have HT1 : Hid (Tab (w1.alloc (.cells #[.int .i64 (x / 16777216), .int .i64 A, .int .i64 B, .int .i64 C, .int .i64 I] 112))) := hT1.later ((Below.refl _ _).alloc (Nat.le_refl _) _)
      clear hT1 hb1
      go_wp2_with fail
      refine (put_yes _ _ _ _ _ _ HT1.out hr).mono ?_
      rintro e w2 ⟨rfl, hb2⟩
      obtain ⟨hc1, hc2, hf, hs1, hs2, hB⟩ := get_cells HB1.out hb2
      have z0 := hc1 0 (.int .i64 0) rfl
      have z1 := hc1 1 (.int .i64 0) rfl
      have z2 := hc1 2 (.int .i64 0) rfl
      have z3 := hc1 3 (.int .i64 0) rfl
      have z4 := hc1 4 (.int .i64 0) rfl
      have y0 := hc2 0 (.int .i64 (x / 16777216)) rfl
      have y1 := hc2 1 (.int .i64 A) rfl
      have y2 := hc2 2 (.int .i64 B) rfl
      have y3 := hc2 3 (.int .i64 C) rfl
      have y4 := hc2 4 (.int .i64 I) rfl
      have HBB : Hid (Below w.heap.size w w2) := hB
      clear hc1 hc2 hb2 hB
      have hqq : (putZ (x / 16777216) A B C I != x) = true := by simp [hq]
      clear hr hq
      generalize putZ (x / 16777216) A B C I = pz at *
      go_wp2
      refine bodyPost_ret (v := Value.tuple #[.agg (insV 0 0 0 0 0), .int .i64 3]) ?_ rfl ⟨rfl, five_set' HBB.out _ _ _ _ _⟩
      simp [results, Tryz.results127, go_sem, insV, z0, z1, z2, z3, z4]
  · have hc : ¬ (rightB (x / 16777216) A B C I && putZ (x / 16777216) A B C I == x) = true := by simp [hr]
    rw [if_neg hc]
    rw [Bool.not_eq_true] at hr
    clear hc
    go_enter Tryz.func127, Tryz.ntmps127
    go_wp2_with fail
    refine (HR.out _ (HT.out.later ((Below.refl _ _).alloc (Nat.le_refl _) _))).mono ?_
    rintro e w1 ⟨rfl, hb1⟩
    have HB1 : Hid _ := hb1
    have hT1 : Tab w1 := HT.out.later (((Below.refl _ _).alloc (Nat.le_refl _) _).trans (hb1.mono (by simp)))
    have HT1 : Hid (Tab (w1.alloc (.cells #[.int .i64 (x / 16777216), .int .i64 A, .int .i64 B, .int .i64 C, .int .i64 I] 112))) := hT1.later ((Below.refl _ _).alloc (Nat.le_refl _) _)
    clear hT1 hb1
    go_wp2_with fail
    refine (put_not _ _ _ _ _ _ HT1.out hr).mono ?_
    rintro e w2 ⟨rfl, hb2⟩
    obtain ⟨hc1, hc2, hf, hs1, hs2, hB⟩ := get_cells HB1.out hb2
    have z0 := hc1 0 (.int .i64 0) rfl
    have z1 := hc1 1 (.int .i64 0) rfl
    have z2 := hc1 2 (.int .i64 0) rfl
    have z3 := hc1 3 (.int .i64 0) rfl
    have z4 := hc1 4 (.int .i64 0) rfl
    have y0 := hc2 0 (.int .i64 (x / 16777216)) rfl
    have y1 := hc2 1 (.int .i64 A) rfl
    have y2 := hc2 2 (.int .i64 B) rfl
    have y3 := hc2 3 (.int .i64 C) rfl
    have y4 := hc2 4 (.int .i64 I) rfl
    have HBB : Hid (Below w.heap.size w w2) := hB
    clear hc1 hc2 hb2 hB
    clear hr
    go_wp2
    refine bodyPost_ret (v := Value.tuple #[.agg (insV 0 0 0 0 0), .int .i64 3]) ?_ rfl ⟨rfl, five_set' HBB.out _ _ _ _ _⟩
    simp [results, Tryz.results127, go_sem, insV, z0, z1, z2, z3, z4]

/-- code.Get, whatever the word. -/
theorem get_all (x : Int) (w : World) (x0 : 0 ≤ x) (x1 : x < 4294967296) (hT : Tab w) :
    Calls Tryz.prog 127 #[.int .u32 x] w fun e w' => e = .returned (if okG x = true then .tuple #[.agg (insV (gO x) (gA x) (gB x) (gC x) (gI x)), .int .i64 0] else .tuple #[.agg (insV 0 0 0 0 0), .int .i64 3]) ∧ Below w.heap.size w w' := by
  by_cases h : x / 16777216 < 26
  · obtain ⟨k, hk⟩ : ∃ k : Nat, x / 16777216 = k := Int.eq_ofNat_of_zero_le (by omega)
    have hR : ∀ wx, Tab wx → Calls Tryz.prog 147 #[.int .i64 (x / 16777216), .int .u32 x] wx fun e w' => e = .returned (.agg #[.int .i64 (x / 16777216), .int .i64 (gA x), .int .i64 (gB x), .int .i64 (gC x), .int .i64 (gI x)]) ∧ Below wx.heap.size wx w' := by
      intro wx hx
      have := read_any k x wx (by omega) x0 x1 hx
      unfold gA gB gC gI gO; rw [hk]; exact this
    exact get_core x (gA x) (gB x) (gC x) (gI x) w x0 x1 h hT hR
  · have e : okG x = false := by
      unfold okG; rw [right_out _ _ _ _ _ (Or.inr (by unfold gO; omega))]; rfl
    rw [e, if_neg (by decide)]
    exact get_over x w x0 x1 (by omega)
open Go.RowKit
set_option linter.unusedVariables false

theorem imm_z0 (x : Int) : immZ x 0 false = 0 := by unfold immZ; rw [if_neg (by decide), cut_0]
theorem imm_z16u (x : Int) : immZ x 16 false = x % 65536 := by unfold immZ; rw [if_neg (by decide), cut_16]
theorem sign_8 (x : Int) : signZ x 8 = if x % 256 < 128 then x % 256 else x % 256 - 256 := by unfold signZ; rw [if_pos (by omega)]; rfl
theorem sign_16 (x : Int) : signZ x 16 = if x % 65536 < 32768 then x % 65536 else x % 65536 - 65536 := by unfold signZ; rw [if_pos (by omega)]; rfl
theorem sign_24 (x : Int) : signZ x 24 = if x % 16777216 < 8388608 then x % 16777216 else x % 16777216 - 16777216 := by unfold signZ; rw [if_pos (by omega)]; rfl
theorem imm_zs (x n : Int) : immZ x n true = signZ x n := by unfold immZ; rw [if_pos rfl]
theorem g_of (x r wd : Int) (s : Bool) (h : Has (gO x) r wd s) : gA x = fldA x r ∧ gB x = fldB x r ∧ gC x = fldC x r ∧ gI x = immZ x wd s ∧ widthOf (gO x) = wd := by
  obtain ⟨e1, e2, e3⟩ := h
  unfold gA gB gC gI; rw [e1, e2, e3]; exact ⟨rfl, rfl, rfl, rfl, rfl⟩

/-- ok and the fields of a word of a class, beside the document's own reading (a, b, c, i). -/
def Reads (x a b c i : Int) (extra : Bool) : Prop := okG x = (extra && rightB (gO x) a b c i) ∧ (okG x = true → gA x = a ∧ gB x = b ∧ gC x = c ∧ gI x = i)

theorem reads_three (x : Int) (x0 : 0 ≤ x) (x1 : x < 4294967296) (h : 1 ≤ gO x ∧ gO x ≤ 7) : Reads x (x / 1048576 % 16) (x / 65536 % 16) (x % 65536) 0 true := by
  obtain ⟨ea, eb, ec, ei, ew⟩ := g_of x _ _ _ (has_three _ h)
  unfold Reads okG putZ
  rw [ea, eb, ec, ei, ew, imm_z0, cut_0, right_three _ _ _ _ _ h, right_three _ _ _ _ _ h]
  unfold fldA fldB fldC gO
  simp only [if_pos (show (0 : Int) < 3 by decide), if_pos (show (1 : Int) < 3 by decide), if_pos (show (2 : Int) < 3 by decide)]
  refine ⟨?_, ?_⟩
  · rw [Bool.eq_iff_iff]; simp; omega
  · simp; omega
theorem reads_near (x : Int) (x0 : 0 ≤ x) (x1 : x < 4294967296) (h : gO x = 8 ∨ 11 ≤ gO x ∧ gO x ≤ 14) : Reads x (x / 1048576 % 16) (x / 65536 % 16) 0 (signZ x 16) true := by
  obtain ⟨ea, eb, ec, ei, ew⟩ := g_of x _ _ _ (has_near _ h)
  unfold Reads okG putZ
  rw [ea, eb, ec, ei, ew, imm_zs, cut_16, right_near _ _ _ _ _ h, right_near _ _ _ _ _ h, sign_16]
  unfold fldA fldB fldC gO
  simp only [if_pos (show (0 : Int) < 2 by decide), if_pos (show (1 : Int) < 2 by decide), if_neg (show ¬ (2 : Int) < 2 by decide)]
  refine ⟨?_, ?_⟩
  · rw [Bool.eq_iff_iff]; split <;> simp <;> omega
  · intro _; simp
theorem reads_ori (x : Int) (x0 : 0 ≤ x) (x1 : x < 4294967296) (h : gO x = 10) : Reads x (x / 1048576 % 16) (x / 65536 % 16) 0 (x % 65536) true := by
  obtain ⟨ea, eb, ec, ei, ew⟩ := g_of x 2 16 false (by rw [h]; exact has_ori)
  unfold Reads okG putZ
  rw [ea, eb, ec, ei, ew, imm_z16u, cut_16, h, right_ori, right_ori]
  unfold gO at h
  unfold fldA fldB fldC
  simp only [if_pos (show (0 : Int) < 2 by decide), if_pos (show (1 : Int) < 2 by decide), if_neg (show ¬ (2 : Int) < 2 by decide)]
  refine ⟨?_, ?_⟩
  · rw [Bool.eq_iff_iff]; simp; omega
  · intro _; simp
theorem reads_branch (x : Int) (x0 : 0 ≤ x) (x1 : x < 4294967296) (h : 15 ≤ gO x ∧ gO x ≤ 18) : Reads x (x / 1048576 % 16) (x / 65536 % 16) 0 (signZ x 8) (decide (x % 65536 ≤ 255)) := by
  obtain ⟨ea, eb, ec, ei, ew⟩ := g_of x _ _ _ (has_branch _ h)
  unfold Reads okG putZ
  rw [ea, eb, ec, ei, ew, imm_zs, cut_8, right_branch _ _ _ _ _ h, right_branch _ _ _ _ _ h, sign_8]
  unfold fldA fldB fldC gO
  simp only [if_pos (show (0 : Int) < 2 by decide), if_pos (show (1 : Int) < 2 by decide), if_neg (show ¬ (2 : Int) < 2 by decide)]
  refine ⟨?_, ?_⟩
  · rw [Bool.eq_iff_iff]; split <;> simp <;> omega
  · intro _; simp
theorem reads_high (x : Int) (x0 : 0 ≤ x) (x1 : x < 4294967296) (h : gO x = 9) : Reads x (x / 1048576 % 16) (x / 65536 % 16) 0 (x % 65536) true := by
  obtain ⟨ea, eb, ec, ei, ew⟩ := g_of x 1 16 false (by rw [h]; exact has_high)
  unfold Reads okG putZ
  rw [ea, eb, ec, ei, ew, imm_z16u, cut_16, h, right_high, right_high]
  unfold gO at h
  unfold fldA fldB fldC
  simp only [if_pos (show (0 : Int) < 1 by decide), if_neg (show ¬ (1 : Int) < 1 by decide), if_neg (show ¬ (2 : Int) < 1 by decide)]
  refine ⟨?_, ?_⟩
  · rw [Bool.eq_iff_iff]; simp; omega
  · simp; omega
theorem reads_one (x : Int) (x0 : 0 ≤ x) (x1 : x < 4294967296) (h : gO x = 0 ∨ gO x = 22 ∨ gO x = 23) : Reads x (x / 1048576 % 16) (x / 65536 % 16) 0 (x % 65536) true := by
  obtain ⟨ea, eb, ec, ei, ew⟩ := g_of x _ _ _ (has_one _ h)
  unfold Reads okG putZ
  rw [ea, eb, ec, ei, ew, imm_z0, cut_0, right_one _ _ _ _ _ h, right_one _ _ _ _ _ h]
  unfold fldA fldB fldC gO
  simp only [if_pos (show (0 : Int) < 1 by decide), if_neg (show ¬ (1 : Int) < 1 by decide), if_neg (show ¬ (2 : Int) < 1 by decide)]
  refine ⟨?_, ?_⟩
  · rw [Bool.eq_iff_iff]; simp; omega
  · simp; omega
theorem reads_far (x : Int) (x0 : 0 ≤ x) (x1 : x < 4294967296) (h : gO x = 19 ∨ gO x = 20) : Reads x 0 0 0 (signZ x 24) true := by
  obtain ⟨ea, eb, ec, ei, ew⟩ := g_of x _ _ _ (has_far _ h)
  unfold Reads okG putZ
  rw [ea, eb, ec, ei, ew, imm_zs, cut_24, right_far _ _ _ _ _ h, right_far _ _ _ _ _ h, sign_24]
  unfold fldA fldB fldC gO
  simp only [if_neg (show ¬ (0 : Int) < 0 by decide), if_neg (show ¬ (1 : Int) < 0 by decide), if_neg (show ¬ (2 : Int) < 0 by decide)]
  refine ⟨?_, ?_⟩
  · rw [Bool.eq_iff_iff]; split <;> simp <;> omega
  · intro _; simp
theorem reads_no (x : Int) (x0 : 0 ≤ x) (x1 : x < 4294967296) (h : gO x = 21 ∨ gO x = 24 ∨ gO x = 25) : Reads x (x / 1048576 % 16) (x / 65536 % 16) 0 (x % 65536) true := by
  obtain ⟨ea, eb, ec, ei, ew⟩ := g_of x _ _ _ (has_none _ h)
  unfold Reads okG putZ
  rw [ea, eb, ec, ei, ew, imm_z0, cut_0, right_no _ _ _ _ _ h, right_no _ _ _ _ _ h]
  unfold fldA fldB fldC gO
  simp only [if_neg (show ¬ (0 : Int) < 0 by decide), if_neg (show ¬ (1 : Int) < 0 by decide), if_neg (show ¬ (2 : Int) < 0 by decide)]
  refine ⟨?_, ?_⟩
  · rw [Bool.eq_iff_iff]; simp; omega
  · simp; omega
theorem reads_over (x a b c i : Int) (h : 26 ≤ gO x) : Reads x a b c i true := by
  have e : okG x = false := by unfold okG; rw [right_out _ _ _ _ _ (Or.inr h)]; rfl
  refine ⟨?_, ?_⟩
  · rw [e, right_out _ _ _ _ _ (Or.inr h)]; rfl
  · rw [e]; intro h'; cases h'
end Go.Proofs.YteakbpcmafdikaaGreatDoor
