/- What each function of layer 2 returns: one contract a function. -/
import Derived.Test.YtombfnnpdamlgaaDoorCalls
import Derived.Test.YtombfnnpdamlgaaDoorCodeMath
import Derived.Deep.RegionWith
import Derived.WalkSmall
namespace Go.Proofs.YtombfnnpdamlgaaDoor
open Go.ChangeShapes Go.WideShapes Go.ChangeAt Go.RowKit
set_option linter.unusedVariables false

/-- The table of what operations have, as it lies in the program's first variable. -/
def Tab (w : World) : Prop := ∀ k : Nat, k < 26 → w.cell? ⟨0, k * 3, none⟩ = some (.int .i64 (regsOf k)) ∧ w.cell? ⟨0, k * 3 + 1, none⟩ = some (.int .i64 (widthOf k)) ∧ w.cell? ⟨0, k * 3 + 2, none⟩ = some (.bool (signedOf k))
theorem Tab.size {w : World} (h : Tab w) : 0 < w.heap.size := World.block_lt_of_cell? _ _ (h 0 (by omega)).1
theorem Tab.later {w w' : World} (h : Tab w) (hb : Below w.heap.size w w') : Tab w' := fun k hk => ⟨cell_later hb (h k hk).1, cell_later hb (h k hk).2.1, cell_later hb (h k hk).2.2⟩

theorem rreg_any (r : Int) (has : Bool) (w : World) :
    Calls Tryd.prog 57 #[.int .i64 r, .bool has] w fun e w' => e = .returned (.bool (regB r has)) ∧ w' = w := by
  cases has
  · go_enter Tryd.func57, Tryd.ntmps57
    go_wp2
    go_ret
    exact ⟨ret_bool (by simp [regB, Bool.beq_eq_decide_eq]), rfl⟩
  · by_cases h0 : 0 ≤ r
    · go_enter Tryd.func57, Tryd.ntmps57
      go_wp2
      go_ret
      exact ⟨ret_bool (by simp [regB, h0]), rfl⟩
    · go_enter Tryd.func57, Tryd.ntmps57
      go_wp2
      go_ret
      exact ⟨ret_bool (by simp [regB]; omega), rfl⟩

theorem rimm_any (imm r n : Int) (s : Bool) (w : World) (n0 : 0 ≤ n) (n1 : n ≤ 32) :
    Calls Tryd.prog 58 #[.int .i64 imm, .agg #[.int .i64 r, .int .i64 n, .bool s]] w fun e w' => e = .returned (.bool (immB imm n s)) ∧ Below w.heap.size w w' := by
  cases s
  · go_enter Tryd.func58, Tryd.ntmps58
    go_wp2
    go_ret
    exact ⟨ret_bool (by simp [immB, Bool.beq_eq_decide_eq]), (Below.refl _ _).alloc (Nat.le_refl _) _⟩
  · go_enter Tryd.func58, Tryd.ntmps58
    go_wp2_with (go_at_call 61; refine (fits_any _ _ _).mono ?_; rintro e w' ⟨rfl, rfl⟩)
    go_ret
    exact ⟨ret_bool (by simp [immB]), (Below.refl _ _).alloc (Nat.le_refl _) _⟩

theorem readImm_any (x r n : Int) (s : Bool) (w : World) (x0 : 0 ≤ x) (x1 : x < 4294967296) :
    Calls Tryd.prog 55 #[.int .u32 x, .agg #[.int .i64 r, .int .i64 n, .bool s]] w fun e w' => e = .returned (.int .i64 (immZ x n s)) ∧ Below w.heap.size w w' := by
  cases s
  · obtain ⟨u0, u1⟩ := cut_bd x n
    go_enter Tryd.func55, Tryd.ntmps55
    go_wp2_with (go_at_call 51; refine (cut_any _ _ _).mono ?_; rintro e w' ⟨rfl, rfl⟩)
    go_ret
    exact ⟨ret_int (by simp [immZ]), (Below.refl _ _).alloc (Nat.le_refl _) _⟩
  · go_enter Tryd.func55, Tryd.ntmps55
    go_wp2_with (go_at_call 60; refine (sign_any _ _ _ x0 x1).mono ?_; rintro e w' ⟨rfl, rfl⟩)
    go_ret
    exact ⟨ret_int (by simp [immZ]), (Below.refl _ _).alloc (Nat.le_refl _) _⟩

theorem register_any (x p : Int) (w : World) (x0 : 0 ≤ x) (x1 : x < 4294967296) (p0 : 0 ≤ p) (p1 : p < 32) :
    Calls Tryd.prog 56 #[.int .u32 x, .int .i64 p] w fun e w' => e = .returned (.int .i64 (x / 2 ^ p.toNat % 16)) ∧ w' = w := by
  have hp : (0 : Int) < 2 ^ p.toNat := Int.pow_pos (by decide)
  have q0 : 0 ≤ x / 2 ^ p.toNat := Int.ediv_nonneg x0 (by omega)
  have q1 : x / 2 ^ p.toNat < 4294967296 := by have := Int.ediv_le_self (2 ^ p.toNat) x0; omega
  go_enter Tryd.func56, Tryd.ntmps56
  go_wp2
  go_ret
  exact ⟨rfl, rfl⟩

theorem index3_0 (a b c : Int) (w : World) : (Instr.index 98 (.agg #[.int .i64 a, .int .i64 b, .int .i64 c]) (.int .i64 0)).run Tryd.prog w = .ok (.int .i64 a) w := by kernel_rfl
theorem index3_1 (a b c : Int) (w : World) : (Instr.index 98 (.agg #[.int .i64 a, .int .i64 b, .int .i64 c]) (.int .i64 1)).run Tryd.prog w = .ok (.int .i64 b) w := by kernel_rfl
theorem index3_2 (a b c : Int) (w : World) : (Instr.index 98 (.agg #[.int .i64 a, .int .i64 b, .int .i64 c]) (.int .i64 2)).run Tryd.prog w = .ok (.int .i64 c) w := by kernel_rfl
theorem right_any (op a b c imm : Int) (w : World) (hT : Tab w) :
    Calls Tryd.prog 50 #[.agg #[.int .i64 op, .int .i64 a, .int .i64 b, .int .i64 c, .int .i64 imm]] w fun e w' => e = .returned (.bool (rightB op a b c imm)) ∧ Below w.heap.size w w' := by
  by_cases h0 : op < 0
  · go_enter Tryd.func50, Tryd.ntmps50
    go_wp2
    go_ret
    exact ⟨ret_bool (by simp [rightB]; omega), (Below.refl _ _).alloc (Nat.le_refl _) _⟩
  by_cases h1 : 26 ≤ op
  · go_enter Tryd.func50, Tryd.ntmps50
    go_wp2
    go_ret
    exact ⟨ret_bool (by simp [rightB]; omega), (Below.refl _ _).alloc (Nat.le_refl _) _⟩
  obtain ⟨k, rfl⟩ := Int.eq_ofNat_of_zero_le (a := op) (by omega)
  obtain ⟨t0, t1, t2⟩ := hT k (by omega)
  have hz := hT.size
  have hk : k < 26 := by omega
  have R : Hid (rightB k a b c imm = (regB a (decide (0 < regsOf k)) && regB b (decide (1 < regsOf k)) && regB c (decide (2 < regsOf k)) && immB imm (widthOf k) (signedOf k))) := by
    have e : decide (0 ≤ (k : Int) ∧ (k : Int) < 26) = true := by simp; omega
    unfold Hid rightB; rw [e, Bool.true_and]
  have W0 : 0 ≤ widthOf k ∧ widthOf k ≤ 32 := by unfold widthOf; repeat' split <;> omega
  obtain ⟨n0, n1⟩ := W0
  generalize regsOf k = rg at *
  generalize widthOf k = wd at *
  generalize signedOf k = sg at *
  have i0 := fun w => index3_0 a b c w
  have i1 := fun w => index3_1 a b c w
  have i2 := fun w => index3_2 a b c w
  clear hT h0 h1
  go_enter Tryd.func50, Tryd.ntmps50
  go_wp2
  go_loop [4, 5, 25] (fun u v i => ∃ k : Nat, k ≤ 3 ∧ i = .int .i64 k ∧ Hid ((1 ≤ k → regB a (decide (0 < rg)) = true) ∧ (2 ≤ k → regB b (decide (1 < rg)) = true) ∧ (3 ≤ k → regB c (decide (2 < rg)) = true))) (fun _ _ i => 3 - (intOf i).toNat)
  case atStart => exact ⟨0, by omega, rfl, by omega, by omega, by omega⟩
  case round =>
    obtain ⟨j, hj, rfl, HP⟩ := hrel
    rcases (by omega : j = 0 ∨ j = 1 ∨ j = 2 ∨ j = 3) with rfl | rfl | rfl | rfl
    · go_wp2_with (go_at_call 57; refine (rreg_any _ _ _).mono ?_; rintro e w' ⟨rfl, rfl⟩)
      · rename_i hq
        go_ret
        exact ⟨ret_bool (by rw [R.out]; simp_all), ((Below.refl _ _).alloc (Nat.le_refl _) _).alloc (by simp) _⟩
      · rename_i hq
        go_round
        case rel => exact ⟨1, by omega, rfl, by simp_all [Hid]⟩
        case measure => simp [intOf]
    · go_wp2_with (go_at_call 57; refine (rreg_any _ _ _).mono ?_; rintro e w' ⟨rfl, rfl⟩)
      · rename_i hq
        go_ret
        exact ⟨ret_bool (by rw [R.out]; simp_all), ((Below.refl _ _).alloc (Nat.le_refl _) _).alloc (by simp) _⟩
      · rename_i hq
        go_round
        case rel => exact ⟨2, by omega, rfl, by simp_all [Hid]⟩
        case measure => simp [intOf]
    · go_wp2_with (go_at_call 57; refine (rreg_any _ _ _).mono ?_; rintro e w' ⟨rfl, rfl⟩)
      · rename_i hq
        go_ret
        exact ⟨ret_bool (by rw [R.out]; simp_all), ((Below.refl _ _).alloc (Nat.le_refl _) _).alloc (by simp) _⟩
      · rename_i hq
        go_round
        case rel => exact ⟨3, by omega, rfl, by simp_all [Hid]⟩
        case measure => simp [intOf]
    · go_wp2_with (go_at_call 58; refine (rimm_any _ _ _ _ _ n0 n1).mono ?_; rintro e w' ⟨rfl, hb⟩)
      go_ret
      exact ⟨ret_bool (by rw [R.out]; simp_all [Hid]), (((Below.refl _ _).alloc (Nat.le_refl _) _).alloc (by simp) _).trans (hb.mono (by simp; omega))⟩

theorem put_not (op a b c imm : Int) (w : World) (hT : Tab w) (hr : rightB op a b c imm = false) :
    Calls Tryd.prog 43 #[.agg #[.int .i64 op, .int .i64 a, .int .i64 b, .int .i64 c, .int .i64 imm]] w fun e w' => e = .returned (.tuple #[.int .u32 0, .int .i64 3]) ∧ Below w.heap.size w w' := by
  have H : Hid (∀ wx, Tab wx → _) := fun wx hx => right_any op a b c imm wx hx
  have hz := hT.size
  go_enter Tryd.func43, Tryd.ntmps43
  go_wp2_with (go_at_call 50; refine (right_any op a b c imm _ (hT.later ((Below.refl _ _).alloc (Nat.le_refl _) _))).mono ?_; rintro e w' ⟨rfl, hb⟩; rw [hr])
  go_ret2
  exact ⟨rfl, ((Below.refl _ _).alloc (Nat.le_refl _) _).trans (hb.mono (by simp))⟩
/-- A cell of a new block. -/
theorem new_cell (w : World) (cs : Array Value) (t : TypeId) (i : Nat) (v : Value) (h : cs[i]? = some v) : (w.alloc (.cells cs t)).cell? ⟨w.heap.size, i, none⟩ = some v := by simp [go_sem, h]
theorem put_yes (op a b c imm : Int) (w : World) (hT : Tab w) (hr : rightB op a b c imm = true) :
    Calls Tryd.prog 43 #[.agg #[.int .i64 op, .int .i64 a, .int .i64 b, .int .i64 c, .int .i64 imm]] w fun e w' => e = .returned (.tuple #[.int .u32 (putZ op a b c imm), .int .i64 0]) ∧ Below w.heap.size w w' := by
  have hop : 0 ≤ op ∧ op < 26 := by simp [rightB] at hr; omega
  obtain ⟨k, rfl⟩ := Int.eq_ofNat_of_zero_le (a := op) (by omega)
  have hk : k < 26 := by omega
  have hz := hT.size
  obtain ⟨a0, a1, b0, b1, c0, c1⟩ := right_regs _ _ _ _ _ hr
  go_enter Tryd.func43, Tryd.ntmps43
  go_wp2_with fail
  have hB : Below w.heap.size w (w.alloc (.cells #[.int .i64 k, .int .i64 a, .int .i64 b, .int .i64 c, .int .i64 imm] 49)) := (Below.refl _ _).alloc (Nat.le_refl _) _
  refine (right_any k a b c imm _ (hT.later hB)).mono ?_
  rintro e w1 ⟨rfl, hb⟩
  have hB1 : Below w.heap.size w w1 := hB.trans (hb.mono (by simp))
  obtain ⟨t0, t1, t2⟩ := (hT.later hB1) k hk
  have f0 := (hb.cell (p := ⟨w.heap.size, 0, none⟩) (by simp)).trans (new_cell w _ _ 0 _ rfl)
  have f1 := (hb.cell (p := ⟨w.heap.size, 1, none⟩) (by simp)).trans (new_cell w _ _ 1 _ rfl)
  have f2 := (hb.cell (p := ⟨w.heap.size, 2, none⟩) (by simp)).trans (new_cell w _ _ 2 _ rfl)
  have f3 := (hb.cell (p := ⟨w.heap.size, 3, none⟩) (by simp)).trans (new_cell w _ _ 3 _ rfl)
  have f4 := (hb.cell (p := ⟨w.heap.size, 4, none⟩) (by simp)).trans (new_cell w _ _ 4 _ rfl)
  have HP : Hid (_ = _) := put_eq k a b c imm hr
  have HB1 : Hid (Below w.heap.size w w1) := hB1
  clear hT hB hB1 hb t0 t2
  rw [hr]
  clear hr
  generalize widthOf k = wd at *
  obtain ⟨u0, u1⟩ := cut_bd imm wd
  go_wp2
  go_quiet ((go_at_call 51; exact Calls.quiet_of_same (cut_any _ _ _)))
  go_wp2
  go_ret2
  exact ⟨congrArg (fun x => Ending.returned (.tuple #[.int .u32 x, .int .i64 0])) HP.out, below_drewN HB1.out _⟩
end Go.Proofs.YtombfnnpdamlgaaDoor
