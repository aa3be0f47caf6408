/- The plain arithmetic of layer 2: which registers and numbers an operation has, when an instruction is right, its word. No condition. -/
import Derived.Test.YtombfnnpdamlgaaDoorMath
import Derived.Laws.BitsAllLaws
namespace Go.Proofs.YtombfnnpdamlgaaDoor
open Go.RowKit
set_option linter.unusedVariables false

/-- How many registers an operation has. -/
def regsOf (op : Int) : Int := if op = 0 ∨ op = 9 ∨ op = 22 ∨ op = 23 then 1 else if 1 ≤ op ∧ op ≤ 7 then 3 else if op = 8 ∨ 10 ≤ op ∧ op ≤ 18 then 2 else 0
/-- How many bits its number has. -/
def widthOf (op : Int) : Int := if 8 ≤ op ∧ op ≤ 14 then 16 else if 15 ≤ op ∧ op ≤ 18 then 8 else if op = 19 ∨ op = 20 then 24 else 0
/-- Is its number signed? -/
def signedOf (op : Int) : Bool := decide (op = 8 ∨ 11 ≤ op ∧ op ≤ 20)
/-- May r stand where an operation has a register, or hasn't one? -/
def regB (r : Int) (has : Bool) : Bool := if has = true then decide (0 ≤ r ∧ r < 16) else decide (r = 0)
/-- May an operation of that width have the number? -/
def immB (imm width : Int) (signed : Bool) : Bool := if signed = true then fitsB imm width else decide (imm / 2 ^ width.toNat = 0)
/-- Is the instruction right? -/
def rightB (op a b c imm : Int) : Bool :=
  decide (0 ≤ op ∧ op < 26) && regB a (decide (0 < regsOf op)) && regB b (decide (1 < regsOf op)) && regB c (decide (2 < regsOf op)) && immB imm (widthOf op) (signedOf op)
/-- The number that stands in a word's lowest bits. -/
def immZ (w width : Int) (signed : Bool) : Int := if signed = true then signZ w width else cutZ w width
/-- An instruction's word. -/
def putZ (op a b c imm : Int) : Int := op * 16777216 + a * 1048576 + b * 65536 + c + cutZ imm (widthOf op)

theorem right_regs (op a b c imm : Int) (h : rightB op a b c imm = true) : 0 ≤ a ∧ a < 16 ∧ 0 ≤ b ∧ b < 16 ∧ 0 ≤ c ∧ c < 16 := by
  simp only [rightB, Bool.and_eq_true] at h
  obtain ⟨⟨⟨⟨_, ha⟩, hb⟩, hc⟩, _⟩ := h
  unfold regB at ha hb hc
  refine ⟨?_, ?_, ?_, ?_, ?_, ?_⟩
  all_goals split at ha <;> split at hb <;> split at hc <;> simp at ha hb hc <;> omega
theorem cut_0 (x : Int) : cutZ x 0 = 0 := cut_out x 0 (by omega)
theorem cut_8 (x : Int) : cutZ x 8 = x % 256 := by unfold cutZ; rw [if_pos (by omega)]; rfl
theorem cut_16 (x : Int) : cutZ x 16 = x % 65536 := by unfold cutZ; rw [if_pos (by omega)]; rfl
theorem cut_24 (x : Int) : cutZ x 24 = x % 16777216 := by unfold cutZ; rw [if_pos (by omega)]; rfl

/-- The four kinds of operations, by their numbers' widths. -/
theorem kinds (op : Int) (h0 : 0 ≤ op) (h1 : op < 26) :
    (widthOf op = 0 ∧ (op ≤ 7 ∨ 21 ≤ op)) ∨ (widthOf op = 16 ∧ regsOf op ≤ 2 ∧ 8 ≤ op ∧ op ≤ 14) ∨ (widthOf op = 8 ∧ regsOf op = 2 ∧ 15 ≤ op ∧ op ≤ 18) ∨ (widthOf op = 24 ∧ regsOf op = 0 ∧ (op = 19 ∨ op = 20)) := by
  unfold widthOf regsOf
  by_cases g1 : 8 ≤ op ∧ op ≤ 14
  · rw [if_pos g1]; right; left
    refine ⟨rfl, ?_, by omega, by omega⟩
    repeat' split
    all_goals omega
  rw [if_neg g1]
  by_cases g2 : 15 ≤ op ∧ op ≤ 18
  · rw [if_pos g2]; right; right; left
    refine ⟨rfl, ?_, by omega, by omega⟩
    repeat' split
    all_goals omega
  rw [if_neg g2]
  by_cases g3 : op = 19 ∨ op = 20
  · rw [if_pos g3]; right; right; right
    refine ⟨rfl, ?_, g3⟩
    repeat' split
    all_goals omega
  rw [if_neg g3]; left
  exact ⟨rfl, by omega⟩

/-- What a right instruction's registers are where it has none. -/
theorem right_none (op a b c imm : Int) (h : rightB op a b c imm = true) : (regsOf op ≤ 2 → c = 0) ∧ (regsOf op ≤ 1 → b = 0) ∧ (regsOf op ≤ 0 → a = 0) := by
  simp only [rightB, Bool.and_eq_true] at h
  obtain ⟨⟨⟨⟨_, ha⟩, hb⟩, hc⟩, _⟩ := h
  unfold regB at ha hb hc
  refine ⟨fun g => ?_, fun g => ?_, fun g => ?_⟩
  · rw [if_neg (by simp; omega)] at hc; simpa using hc
  · rw [if_neg (by simp; omega)] at hb; simpa using hb
  · rw [if_neg (by simp; omega)] at ha; simpa using ha

theorem or_add (j : Nat) (x y : Int) (x0 : 0 ≤ x) (hd : x % 2 ^ j = 0) (y0 : 0 ≤ y) (y1 : y < 2 ^ j) (x2 : x < 4294967296) (y2 : y < 4294967296) : bits BinOp.or IntKind.u32 x y = x + y := by
  obtain ⟨x, rfl⟩ := Int.eq_ofNat_of_zero_le x0
  obtain ⟨y, rfl⟩ := Int.eq_ofNat_of_zero_le y0
  have e : ((2 ^ j : Nat) : Int) = 2 ^ j := by simp
  rw [← e] at hd y1
  rw [u32_or_nat x y (by omega) (by omega), nat_join j x y (by exact_mod_cast hd) (by omega)]
  omega

theorem put_eq (op a b c imm : Int) (h : rightB op a b c imm = true) :
    bits BinOp.or IntKind.u32 (bits BinOp.or IntKind.u32 (bits BinOp.or IntKind.u32 (op * 16777216) (a * 1048576)) (b * 65536)) (bits BinOp.or IntKind.u32 c (cutZ imm (widthOf op))) = putZ op a b c imm := by
  obtain ⟨a0, a1, b0, b1, c0, c1⟩ := right_regs _ _ _ _ _ h
  obtain ⟨n1, n2, n3⟩ := right_none _ _ _ _ _ h
  have hop : 0 ≤ op ∧ op < 26 := by simp [rightB] at h; omega
  obtain ⟨o0, o1⟩ := hop
  clear h
  have e1 : bits BinOp.or IntKind.u32 (op * 16777216) (a * 1048576) = op * 16777216 + a * 1048576 :=
    or_add 24 _ _ (by omega) (by omega) (by omega) (by omega) (by omega) (by omega)
  have e2 : bits BinOp.or IntKind.u32 (op * 16777216 + a * 1048576) (b * 65536) = op * 16777216 + a * 1048576 + b * 65536 :=
    or_add 20 _ _ (by omega) (by omega) (by omega) (by omega) (by omega) (by omega)
  rw [e1, e2]
  unfold putZ
  rcases kinds op o0 o1 with ⟨hw, _⟩ | ⟨hw, hr, _, _⟩ | ⟨hw, hr, _, _⟩ | ⟨hw, hr, _⟩
  · rw [hw, cut_0]
    have e3 : bits BinOp.or IntKind.u32 c 0 = c + 0 := or_add 0 _ _ (by omega) (by omega) (by omega) (by omega) (by omega) (by omega)
    rw [e3, or_add 16 _ _ (by omega) (by omega) (by omega) (by omega) (by omega) (by omega)]; omega
  · rw [hw, cut_16, n1 hr]
    have e3 : bits BinOp.or IntKind.u32 0 (imm % 65536) = 0 + imm % 65536 := or_add 16 _ _ (by omega) (by omega) (by omega) (by omega) (by omega) (by omega)
    rw [e3, or_add 16 _ _ (by omega) (by omega) (by omega) (by omega) (by omega) (by omega)]; omega
  · rw [hw, cut_8, n1 (by omega)]
    have e3 : bits BinOp.or IntKind.u32 0 (imm % 256) = 0 + imm % 256 := or_add 8 _ _ (by omega) (by omega) (by omega) (by omega) (by omega) (by omega)
    rw [e3, or_add 16 _ _ (by omega) (by omega) (by omega) (by omega) (by omega) (by omega)]; omega
  · rw [hw, cut_24, n1 (by omega), n2 (by omega), n3 (by omega)]
    have e3 : bits BinOp.or IntKind.u32 0 (imm % 16777216) = 0 + imm % 16777216 := or_add 24 _ _ (by omega) (by omega) (by omega) (by omega) (by omega) (by omega)
    rw [e3, or_add 24 _ _ (by omega) (by omega) (by omega) (by omega) (by omega) (by omega)]; omega

/-! ### Right, class by class -/
theorem fits_8 (x : Int) : fitsB x 8 = decide (-128 ≤ x ∧ x ≤ 127) := by
  unfold fitsB; rw [Bool.eq_iff_iff]; simp only [decide_eq_true_eq, show ((8 : Int).toNat - 1) = 7 from rfl, show (2 : Int) ^ 7 = 128 from rfl]; omega
theorem fits_16 (x : Int) : fitsB x 16 = decide (-32768 ≤ x ∧ x ≤ 32767) := by
  unfold fitsB; rw [Bool.eq_iff_iff]; simp only [decide_eq_true_eq, show ((16 : Int).toNat - 1) = 15 from rfl, show (2 : Int) ^ 15 = 32768 from rfl]; omega
theorem fits_24 (x : Int) : fitsB x 24 = decide (-8388608 ≤ x ∧ x ≤ 8388607) := by
  unfold fitsB; rw [Bool.eq_iff_iff]; simp only [decide_eq_true_eq, show ((24 : Int).toNat - 1) = 23 from rfl, show (2 : Int) ^ 23 = 8388608 from rfl]; omega
theorem imm_0 (x : Int) : immB x 0 false = decide (x = 0) := by unfold immB; simp
theorem imm_16u (x : Int) : immB x 16 false = decide (0 ≤ x ∧ x ≤ 65535) := by
  unfold immB; rw [if_neg (by decide), Bool.eq_iff_iff]; simp only [decide_eq_true_eq, show (2 : Int) ^ (16 : Int).toNat = 65536 from rfl]; omega
theorem imm_8 (x : Int) : immB x 8 true = decide (-128 ≤ x ∧ x ≤ 127) := by unfold immB; rw [if_pos rfl, fits_8]
theorem imm_16 (x : Int) : immB x 16 true = decide (-32768 ≤ x ∧ x ≤ 32767) := by unfold immB; rw [if_pos rfl, fits_16]
theorem imm_24 (x : Int) : immB x 24 true = decide (-8388608 ≤ x ∧ x ≤ 8388607) := by unfold immB; rw [if_pos rfl, fits_24]
/-- What an operation of a kind has: so many registers, a number of such a width, signed or not. -/
def Has (op r wd : Int) (s : Bool) : Prop := regsOf op = r ∧ widthOf op = wd ∧ signedOf op = s
theorem has_three (op : Int) (h : 1 ≤ op ∧ op ≤ 7) : Has op 3 0 false := by
  rcases (by omega : op = 1 ∨ op = 2 ∨ op = 3 ∨ op = 4 ∨ op = 5 ∨ op = 6 ∨ op = 7) with rfl | rfl | rfl | rfl | rfl | rfl | rfl <;> exact ⟨rfl, rfl, rfl⟩
theorem has_near (op : Int) (h : op = 8 ∨ 11 ≤ op ∧ op ≤ 14) : Has op 2 16 true := by
  rcases (by omega : op = 8 ∨ op = 11 ∨ op = 12 ∨ op = 13 ∨ op = 14) with rfl | rfl | rfl | rfl | rfl <;> exact ⟨rfl, rfl, rfl⟩
theorem has_ori : Has 10 2 16 false := ⟨rfl, rfl, rfl⟩
theorem has_branch (op : Int) (h : 15 ≤ op ∧ op ≤ 18) : Has op 2 8 true := by
  rcases (by omega : op = 15 ∨ op = 16 ∨ op = 17 ∨ op = 18) with rfl | rfl | rfl | rfl <;> exact ⟨rfl, rfl, rfl⟩
theorem has_high : Has 9 1 16 false := ⟨rfl, rfl, rfl⟩
theorem has_one (op : Int) (h : op = 0 ∨ op = 22 ∨ op = 23) : Has op 1 0 false := by
  rcases h with rfl | rfl | rfl <;> exact ⟨rfl, rfl, rfl⟩
theorem has_far (op : Int) (h : op = 19 ∨ op = 20) : Has op 0 24 true := by
  rcases h with rfl | rfl <;> exact ⟨rfl, rfl, rfl⟩
theorem has_none (op : Int) (h : op = 21 ∨ op = 24 ∨ op = 25) : Has op 0 0 false := by
  rcases h with rfl | rfl | rfl <;> exact ⟨rfl, rfl, rfl⟩
theorem right_of (op a b c imm r wd : Int) (s : Bool) (h0 : 0 ≤ op) (h1 : op < 26) (h : Has op r wd s) :
    rightB op a b c imm = (regB a (decide (0 < r)) && regB b (decide (1 < r)) && regB c (decide (2 < r)) && immB imm wd s) := by
  obtain ⟨e1, e2, e3⟩ := h
  unfold rightB
  rw [e1, e2, e3, decide_eq_true (And.intro h0 h1), Bool.true_and]
theorem reg_yes (r : Int) : regB r true = decide (0 ≤ r ∧ r ≤ 15) := by unfold regB; rw [if_pos rfl, Bool.eq_iff_iff]; simp only [decide_eq_true_eq]; omega
theorem reg_no (r : Int) : regB r false = decide (r = 0) := by unfold regB; rw [if_neg (by decide)]
theorem right_out (op a b c imm : Int) (h : op < 0 ∨ 26 ≤ op) : rightB op a b c imm = false := by
  unfold rightB; rw [decide_eq_false (by omega)]; rfl
theorem right_three (op a b c imm : Int) (h : 1 ≤ op ∧ op ≤ 7) : rightB op a b c imm = decide (0 ≤ a ∧ a ≤ 15 ∧ 0 ≤ b ∧ b ≤ 15 ∧ 0 ≤ c ∧ c ≤ 15 ∧ imm = 0) := by
  rw [right_of _ _ _ _ _ _ _ _ (by omega) (by omega) (has_three op h), Bool.eq_iff_iff]; simp [reg_yes, imm_0]; omega
theorem right_near (op a b c imm : Int) (h : op = 8 ∨ 11 ≤ op ∧ op ≤ 14) : rightB op a b c imm = decide (0 ≤ a ∧ a ≤ 15 ∧ 0 ≤ b ∧ b ≤ 15 ∧ c = 0 ∧ -32768 ≤ imm ∧ imm ≤ 32767) := by
  rw [right_of _ _ _ _ _ _ _ _ (by omega) (by omega) (has_near op h), Bool.eq_iff_iff]; simp [reg_yes, reg_no, imm_16]; omega
theorem right_ori (a b c imm : Int) : rightB 10 a b c imm = decide (0 ≤ a ∧ a ≤ 15 ∧ 0 ≤ b ∧ b ≤ 15 ∧ c = 0 ∧ 0 ≤ imm ∧ imm ≤ 65535) := by
  rw [right_of _ _ _ _ _ _ _ _ (by omega) (by omega) has_ori, Bool.eq_iff_iff]; simp [reg_yes, reg_no, imm_16u]; omega
theorem right_branch (op a b c imm : Int) (h : 15 ≤ op ∧ op ≤ 18) : rightB op a b c imm = decide (0 ≤ a ∧ a ≤ 15 ∧ 0 ≤ b ∧ b ≤ 15 ∧ c = 0 ∧ -128 ≤ imm ∧ imm ≤ 127) := by
  rw [right_of _ _ _ _ _ _ _ _ (by omega) (by omega) (has_branch op h), Bool.eq_iff_iff]; simp [reg_yes, reg_no, imm_8]; omega
theorem right_high (a b c imm : Int) : rightB 9 a b c imm = decide (0 ≤ a ∧ a ≤ 15 ∧ b = 0 ∧ c = 0 ∧ 0 ≤ imm ∧ imm ≤ 65535) := by
  rw [right_of _ _ _ _ _ _ _ _ (by omega) (by omega) has_high, Bool.eq_iff_iff]; simp [reg_yes, reg_no, imm_16u]; omega
theorem right_one (op a b c imm : Int) (h : op = 0 ∨ op = 22 ∨ op = 23) : rightB op a b c imm = decide (0 ≤ a ∧ a ≤ 15 ∧ b = 0 ∧ c = 0 ∧ imm = 0) := by
  rw [right_of _ _ _ _ _ _ _ _ (by omega) (by omega) (has_one op h), Bool.eq_iff_iff]; simp [reg_yes, reg_no, imm_0]; omega
theorem right_far (op a b c imm : Int) (h : op = 19 ∨ op = 20) : rightB op a b c imm = decide (a = 0 ∧ b = 0 ∧ c = 0 ∧ -8388608 ≤ imm ∧ imm ≤ 8388607) := by
  rw [right_of _ _ _ _ _ _ _ _ (by omega) (by omega) (has_far op h), Bool.eq_iff_iff]; simp [reg_no, imm_24]; omega
theorem right_no (op a b c imm : Int) (h : op = 21 ∨ op = 24 ∨ op = 25) : rightB op a b c imm = decide (a = 0 ∧ b = 0 ∧ c = 0 ∧ imm = 0) := by
  rw [right_of _ _ _ _ _ _ _ _ (by omega) (by omega) (has_none op h), Bool.eq_iff_iff]; simp [reg_no, imm_0]; omega
end Go.Proofs.YtombfnnpdamlgaaDoor
