/- The document's fixed answers of layer 1 are answered so: 'awake' returns true. No condition. -/
import Derived.Test.YtidfdhghgjdihaaSlices
import Derived.ChangeKeysEq
namespace Go.Proofs.Ytidfdhghgjdihaa
open Go.ChangeShapes Go.WideShapes Go.ChangeAt Go.RowKit
set_option linter.unusedVariables false

theorem cells5 : Try.prog.cellsOf 5 = 1 := by kernel_rfl
theorem info5 : (Try.prog.info? 5).isSome = true := by kernel_rfl
/-- '==' on two arrays of four bytes. -/
theorem run_eql_arr4 (w : World) (a0 a1 a2 a3 b0 b1 b2 b3 : Int) :
    (binOp .eql 25 (.agg #[.int .u8 a0, .int .u8 a1, .int .u8 a2, .int .u8 a3]) (.agg #[.int .u8 b0, .int .u8 b1, .int .u8 b2, .int .u8 b3])).run Try.prog w =
      .ok (.bool (a0 == b0 && a1 == b1 && a2 == b2 && a3 == b3)) w := by
  obtain ⟨i, hi⟩ := Option.isSome_iff_exists.1 info5
  rw [run_eql_struct, run_equalIn_array w 9999 _ _ Try.underlying25 hi, cells5]
  have e0 : List.range 4 = [0, 1, 2, 3] := rfl
  rw [e0]
  simp only [Op.eqItems, Sem.run_bind]
  simp [go_sem, Try.underlying5]
  by_cases h0 : a0 = b0 <;> by_cases h1 : a1 = b1 <;> by_cases h2 : a2 = b2 <;> by_cases h3 : a3 = b3 <;> simp [h0, h1, h2, h3]

/-- The word of four bytes that stand in a block. -/
theorem get_four (w : World) (b : Nat) (a0 a1 a2 a3 r : Int) (h0 : w.cell? ⟨b, 0, none⟩ = some (.int .u8 a0)) (h1 : w.cell? ⟨b, 1, none⟩ = some (.int .u8 a1))
    (h2 : w.cell? ⟨b, 2, none⟩ = some (.int .u8 a2)) (h3 : w.cell? ⟨b, 3, none⟩ = some (.int .u8 a3)) (b0 : 0 ≤ a0 ∧ a0 < 256) (b1 : 0 ≤ a1 ∧ a1 < 256) (b2 : 0 ≤ a2 ∧ a2 < 256) (b3 : 0 ≤ a3 ∧ a3 < 256)
    (hr : a0 + 256 * a1 + 65536 * a2 + 16777216 * a3 = r) :
    Calls Try.prog 12 #[.slice (some ⟨b, 0, none⟩) 4 4] w fun e w' => e = .returned (.int .u32 r) ∧ Below w.heap.size w w' := by
  refine (get_any w b 0 4 4 (fun i => if i = 0 then a0 else if i = 1 then a1 else if i = 2 then a2 else if i = 3 then a3 else 0) (by omega) ?_ ?_).mono ?_
  · intro i hi _
    rcases (by omega : i = 0 ∨ i = 1 ∨ i = 2 ∨ i = 3) with rfl | rfl | rfl | rfl <;> simpa
  · intro i
    repeat' split
    all_goals first | assumption | omega
  · rintro e w' ⟨rfl, hb⟩
    exact ⟨ret_int (by simp [sumZ]; omega), hb⟩

theorem sign_255 : signZ 255 8 = -1 := by decide
theorem cut_m1 : cutZ (-1) 8 = 255 := by decide
theorem fits_127 : fitsB 127 8 = true := by decide
theorem fits_128 : fitsB 128 8 = false := by decide
theorem up_54 : (5 + 4 - 1 - (5 + 4 - 1) % 4 : Int) = 8 := by decide
theorem awake_any (w : World) : Calls Try.prog 8 #[] w fun e w' => e = .returned (.bool true) ∧ Below w.heap.size w w' := by
  have heq := fun w => run_eql_arr4 w 1 0 0 0 1 0 0 0
  go_enter Try.func8, Try.ntmps8
  go_wp2_with (go_at_call 9; refine (put_any 1 _ (by omega) (by omega)).mono ?_; rintro e w' ⟨rfl, rfl⟩; simp only [bytesOf])
  refine (get_four _ _ 1 0 0 0 1 ?_ ?_ ?_ ?_ (by decide) (by decide) (by decide) (by decide) (by decide)).mono ?_
  · go_simp
  · go_simp
  · go_simp
  · go_simp
  rintro e w1 ⟨rfl, hb⟩
  go_wp2_with (first
    | (go_at_call 18; refine (sign_any 255 8 _ (by omega) (by omega)).mono ?_; rintro e w' ⟨rfl, rfl⟩; rw [sign_255])
    | (go_at_call 16; refine (cut_any _ _ _).mono ?_; rintro e w' ⟨rfl, rfl⟩; rw [cut_m1])
    | (go_at_call 14; refine (fits_any _ _ _).mono ?_; rintro e w' ⟨rfl, rfl⟩; simp only [fits_127, fits_128])
    | (go_at_call 21; refine (up_in 5 4 _ (by omega) (by omega) (by omega) (by omega)).mono ?_; rintro e w' ⟨rfl, rfl⟩; rw [up_54]))
  go_ret
  exact ⟨rfl, (((Below.refl _ _).alloc (Nat.le_refl _) _).alloc (by simp) _).trans (hb.mono (by simp; omega))⟩
end Go.Proofs.Ytidfdhghgjdihaa
