/- The document's own reading and the program's beside it; '==' on instructions; 'awake' returns true. -/
import Derived.Test.YtombfnnpdamlgaaDoorCodeRef2
import Derived.ChangeKeysEq
namespace Go.Proofs.YtombfnnpdamlgaaDoor
open Go.ChangeShapes Go.WideShapes Go.ChangeAt Go.RowKit
set_option linter.unusedVariables false

theorem rget_long (x : Int) (w : World) (x0 : 0 ≤ x) (x1 : x < 4294967296) (hfar : farB (x / 16777216) = false) (hthree : threeB (x / 16777216) = false) (hnear : nearB (x / 16777216) = false) (hbranch : branchB (x / 16777216) = true) (hgt : 255 < x % 65536) :
    Calls Tryd.prog 17 #[.int .u32 x] w fun e w' => e = .returned (.tuple #[.agg (insV 0 0 0 0 0), .bool false]) ∧ Below w.heap.size w w' := by
  go_enter Tryd.func17, Tryd.ntmps17
  go_wp2_with (first
    | (go_at_call 32; refine (far_any _ _).mono ?_; rintro e w' ⟨rfl, rfl⟩; rw [hfar])
    | (go_at_call 34; refine (three_any _ _).mono ?_; rintro e w' ⟨rfl, rfl⟩; rw [hthree])
    | (go_at_call 35; refine (near_any _ _).mono ?_; rintro e w' ⟨rfl, rfl⟩; rw [hnear])
    | (go_at_call 36; refine (branch_any _ _).mono ?_; rintro e w' ⟨rfl, rfl⟩; rw [hbranch]))
  refine bodyPost_ret (v := Value.tuple #[.agg (insV 0 0 0 0 0), .bool false]) ?_ rfl ⟨rfl, ((Below.refl _ _).alloc (Nat.le_refl _) _).alloc (by simp) _⟩
  simp [results, Tryd.results17, go_sem, insV]

/-- What the document's own reading answers. -/
def rgetV (x : Int) : Value := if okG x = true then .tuple #[.agg (insV (gO x) (gA x) (gB x) (gC x) (gI x)), .bool true] else .tuple #[.agg (insV 0 0 0 0 0), .bool false]
theorem rget_of (x a b c i : Int) (w : World) (h : Reads x a b c i true)
    (hc : Calls Tryd.prog 17 #[.int .u32 x] w fun e w' => e = .returned (if rightB (x / 16777216) a b c i = true then .tuple #[.agg (insV (x / 16777216) a b c i), .bool true] else .tuple #[.agg (insV 0 0 0 0 0), .bool false]) ∧ Below w.heap.size w w') :
    Calls Tryd.prog 17 #[.int .u32 x] w fun e w' => e = .returned (rgetV x) ∧ Below w.heap.size w w' := by
  refine hc.mono fun e w' ⟨he, hb⟩ => ⟨?_, hb⟩
  rw [he]
  obtain ⟨h1, h2⟩ := h
  have h1' : okG x = rightB (x / 16777216) a b c i := by rw [h1, Bool.true_and]; rfl
  unfold rgetV
  by_cases g : okG x = true
  · obtain ⟨ea, eb, ec, ei⟩ := h2 g
    rw [if_pos g, if_pos (h1' ▸ g), ea, eb, ec, ei]; rfl
  · rw [if_neg g, if_neg (by rw [← h1']; exact g)]
theorem rget_all (x : Int) (w : World) (x0 : 0 ≤ x) (x1 : x < 4294967296) :
    Calls Tryd.prog 17 #[.int .u32 x] w fun e w' => e = .returned (rgetV x) ∧ Below w.heap.size w w' := by
  have hO : gO x = x / 16777216 := rfl
  have g0 : 0 ≤ x / 16777216 := by omega
  rcases (by omega : (1 ≤ gO x ∧ gO x ≤ 7) ∨ (gO x = 8 ∨ 11 ≤ gO x ∧ gO x ≤ 14) ∨ gO x = 10 ∨ (15 ≤ gO x ∧ gO x ≤ 18) ∨ gO x = 9 ∨ (gO x = 0 ∨ gO x = 22 ∨ gO x = 23) ∨ (gO x = 19 ∨ gO x = 20) ∨ (gO x = 21 ∨ gO x = 24 ∨ gO x = 25) ∨ 26 ≤ gO x) with h | h | h | h | h | h | h | h | h
  · exact rget_of x _ _ _ _ w (reads_three x x0 x1 h) (rget_three x w x0 x1 (by unfold farB; simp; omega) (by unfold threeB; simp; omega))
  · exact rget_of x _ _ _ _ w (reads_near x x0 x1 h) (rget_near x w x0 x1 (by unfold farB; simp; omega) (by unfold threeB; simp; omega) (by unfold nearB; simp; omega))
  · exact rget_of x _ _ _ _ w (reads_ori x x0 x1 h) (rget_other x w x0 x1 (by unfold farB; simp; omega) (by unfold threeB; simp; omega) (by unfold nearB; simp; omega) (by unfold branchB; simp; omega))
  · by_cases hle : x % 65536 ≤ 255
    · have hr := reads_branch x x0 x1 h
      rw [decide_eq_true hle] at hr
      exact rget_of x _ _ _ _ w hr (rget_branch x w x0 x1 (by unfold farB; simp; omega) (by unfold threeB; simp; omega) (by unfold nearB; simp; omega) (by unfold branchB; simp; omega) hle)
    · have hr := (reads_branch x x0 x1 h).1
      rw [decide_eq_false hle, Bool.false_and] at hr
      have e : rgetV x = .tuple #[.agg (insV 0 0 0 0 0), .bool false] := by unfold rgetV; rw [hr, if_neg (by decide)]
      rw [e]
      exact rget_long x w x0 x1 (by unfold farB; simp; omega) (by unfold threeB; simp; omega) (by unfold nearB; simp; omega) (by unfold branchB; simp; omega) (by omega)
  · exact rget_of x _ _ _ _ w (reads_high x x0 x1 h) (rget_other x w x0 x1 (by unfold farB; simp; omega) (by unfold threeB; simp; omega) (by unfold nearB; simp; omega) (by unfold branchB; simp; omega))
  · exact rget_of x _ _ _ _ w (reads_one x x0 x1 h) (rget_other x w x0 x1 (by unfold farB; simp; omega) (by unfold threeB; simp; omega) (by unfold nearB; simp; omega) (by unfold branchB; simp; omega))
  · exact rget_of x _ _ _ _ w (reads_far x x0 x1 h) (rget_far x w x0 x1 (by unfold farB; simp; omega) (by unfold threeB; simp; omega) (by unfold nearB; simp; omega) (by unfold branchB; simp; omega))
  · exact rget_of x _ _ _ _ w (reads_no x x0 x1 h) (rget_other x w x0 x1 (by unfold farB; simp; omega) (by unfold threeB; simp; omega) (by unfold nearB; simp; omega) (by unfold branchB; simp; omega))
  · exact rget_of x _ _ _ _ w (reads_over x _ _ _ _ h) (rget_other x w x0 x1 (by unfold farB; simp; omega) (by unfold threeB; simp; omega) (by unfold nearB; simp; omega) (by unfold branchB; simp; omega))

/-- '==' and '!=' on two instructions. -/
theorem run_eql_ins (w : World) (a0 a1 a2 a3 a4 b0 b1 b2 b3 b4 : Int) :
    (binOp .eql 49 (.agg (insV a0 a1 a2 a3 a4)) (.agg (insV b0 b1 b2 b3 b4))).run Tryd.prog w = .ok (.bool (a0 == b0 && a1 == b1 && a2 == b2 && a3 == b3 && a4 == b4)) w := by
  unfold insV
  rw [run_eql_struct]
  simp [go_sem, Tryd.underlying49, Tryd.underlying3]
  by_cases h0 : a0 = b0 <;> by_cases h1 : a1 = b1 <;> by_cases h2 : a2 = b2 <;> by_cases h3 : a3 = b3 <;> by_cases h4 : a4 = b4 <;> simp [h0, h1, h2, h3, h4]
theorem run_neq_ins (w : World) (a0 a1 a2 a3 a4 b0 b1 b2 b3 b4 : Int) :
    (binOp .neq 49 (.agg (insV a0 a1 a2 a3 a4)) (.agg (insV b0 b1 b2 b3 b4))).run Tryd.prog w = .ok (.bool (!(a0 == b0 && a1 == b1 && a2 == b2 && a3 == b3 && a4 == b4))) w := by
  unfold insV
  rw [run_neq_struct]
  simp [go_sem, Tryd.underlying49, Tryd.underlying3]
  by_cases h0 : a0 = b0 <;> by_cases h1 : a1 = b1 <;> by_cases h2 : a2 = b2 <;> by_cases h3 : a3 = b3 <;> by_cases h4 : a4 = b4 <;> simp [h0, h1, h2, h3, h4]

/-! ### awake -/
theorem put_const : putZ 8 1 0 0 (-1) = 135331839 := by decide
theorem right_const : rightB 8 1 0 0 (-1) = true := by decide
theorem ok_const : okG 335544318 = true := by decide
theorem fields_const : gO 335544318 = 19 ∧ gA 335544318 = 0 ∧ gB 335544318 = 0 ∧ gC 335544318 = 0 ∧ gI 335544318 = -2 := by decide
theorem not_const : okG 4278190080 = false := by decide
theorem right_const2 : rightB 19 0 0 0 (-2) = true := by decide
theorem put_c (w : World) (hT : Tab w) : Calls Tryd.prog 43 #[.agg #[.int .i64 8, .int .i64 1, .int .i64 0, .int .i64 0, .int .i64 (-1)]] w fun e w' => e = .returned (.tuple #[.int .u32 135331839, .int .i64 0]) ∧ Below w.heap.size w w' := by
  have := put_yes 8 1 0 0 (-1) w hT right_const
  rw [put_const] at this; exact this
theorem get_c (w : World) (hT : Tab w) : Calls Tryd.prog 42 #[.int .u32 335544318] w fun e w' => e = .returned (.tuple #[.agg #[.int .i64 19, .int .i64 0, .int .i64 0, .int .i64 0, .int .i64 (-2)], .int .i64 0]) ∧ Below w.heap.size w w' := by
  have := get_all 335544318 w (by omega) (by omega) hT
  obtain ⟨e0, e1, e2, e3, e4⟩ := fields_const
  rw [ok_const, if_pos rfl, e0, e1, e2, e3, e4] at this; exact this
theorem get_n (w : World) (hT : Tab w) : Calls Tryd.prog 42 #[.int .u32 4278190080] w fun e w' => e = .returned (.tuple #[.agg #[.int .i64 0, .int .i64 0, .int .i64 0, .int .i64 0, .int .i64 0], .int .i64 3]) ∧ Below w.heap.size w w' := by
  have := get_all 4278190080 w (by omega) (by omega) hT
  rw [not_const, if_neg (by decide)] at this; exact this
theorem right_c (w : World) (hT : Tab w) : Calls Tryd.prog 50 #[.agg #[.int .i64 19, .int .i64 0, .int .i64 0, .int .i64 0, .int .i64 (-2)]] w fun e w' => e = .returned (.bool true) ∧ Below w.heap.size w w' := by
  have := right_any 19 0 0 0 (-2) w hT
  rw [right_const2] at this; exact this

end Go.Proofs.YtombfnnpdamlgaaDoor
