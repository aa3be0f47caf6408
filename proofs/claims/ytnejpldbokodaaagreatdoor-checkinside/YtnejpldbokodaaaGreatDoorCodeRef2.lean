/- What the document's own answers to 'its word' and 'its instruction' return: one contract a function. -/
import Derived.Test.YtnejpldbokodaaaGreatDoorCodeWords
import Derived.Test.YtnejpldbokodaaaGreatDoorCodeRef
namespace Go.Proofs.YtnejpldbokodaaaGreatDoor
open Go.ChangeShapes Go.WideShapes Go.ChangeAt Go.RowKit
set_option linter.unusedVariables false

theorem cut_bd8 (x : Int) : 0 ≤ cutZ x 8 ∧ cutZ x 8 < 256 := by rw [cut_8]; omega
theorem cut_bd16 (x : Int) : 0 ≤ cutZ x 16 ∧ cutZ x 16 < 65536 := by rw [cut_16]; omega
theorem cut_bd24 (x : Int) : 0 ≤ cutZ x 24 ∧ cutZ x 24 < 16777216 := by rw [cut_24]; omega

theorem imm_none (op a b c imm : Int) (hr : rightB op a b c imm = true) (h : op ≤ 7 ∨ 21 ≤ op) : imm = 0 := by
  rcases (by omega : op < 0 ∨ 26 ≤ op ∨ (1 ≤ op ∧ op ≤ 7) ∨ (op = 0 ∨ op = 22 ∨ op = 23) ∨ (op = 21 ∨ op = 24 ∨ op = 25)) with g | g | g | g | g
  · rw [right_out _ _ _ _ _ (Or.inl g)] at hr; cases hr
  · rw [right_out _ _ _ _ _ (Or.inr g)] at hr; cases hr
  · rw [right_three _ _ _ _ _ g] at hr; simp at hr; omega
  · rw [right_one _ _ _ _ _ g] at hr; simp at hr; omega
  · rw [right_no _ _ _ _ _ g] at hr; simp at hr; omega

def threeB (op : Int) : Bool := decide (1 ≤ op ∧ op ≤ 7)
def nearB (op : Int) : Bool := decide (op = 8 ∨ 11 ≤ op ∧ op ≤ 14)
def branchB (op : Int) : Bool := decide (15 ≤ op ∧ op ≤ 18)
def farB (op : Int) : Bool := decide (op = 19 ∨ op = 20)
theorem three_any (op : Int) (w : World) : Calls Tryz.prog 26 #[.int .i64 op] w fun e w' => e = .returned (.bool (threeB op)) ∧ w' = w := by
  by_cases h : 1 ≤ op
  all_goals
    go_enter Tryz.func26, Tryz.ntmps26
    go_wp2
    go_ret
    exact ⟨ret_bool (by unfold threeB; simp <;> omega), rfl⟩
theorem branch_any (op : Int) (w : World) : Calls Tryz.prog 28 #[.int .i64 op] w fun e w' => e = .returned (.bool (branchB op)) ∧ w' = w := by
  by_cases h : 15 ≤ op
  all_goals
    go_enter Tryz.func28, Tryz.ntmps28
    go_wp2
    go_ret
    exact ⟨ret_bool (by unfold branchB; simp <;> omega), rfl⟩
theorem far_any (op : Int) (w : World) : Calls Tryz.prog 24 #[.int .i64 op] w fun e w' => e = .returned (.bool (farB op)) ∧ w' = w := by
  by_cases h : op = 19
  · subst h
    go_enter Tryz.func24, Tryz.ntmps24
    go_wp2
    go_ret
    exact ⟨rfl, rfl⟩
  · have q : (op == 19) = false := by simp [h]
    go_enter Tryz.func24, Tryz.ntmps24
    go_wp2
    go_ret
    exact ⟨ret_bool (by unfold farB; rw [Bool.eq_iff_iff]; simp [h]), rfl⟩
theorem near_any (op : Int) (w : World) : Calls Tryz.prog 27 #[.int .i64 op] w fun e w' => e = .returned (.bool (nearB op)) ∧ w' = w := by
  by_cases h : op = 8
  · subst h
    go_enter Tryz.func27, Tryz.ntmps27
    go_wp2
    go_ret
    exact ⟨rfl, rfl⟩
  · have q : (op == 8) = false := by simp [h]
    by_cases h1 : 11 ≤ op
    all_goals
      go_enter Tryz.func27, Tryz.ntmps27
      go_wp2
      go_ret
      exact ⟨ret_bool (by unfold nearB; rw [Bool.eq_iff_iff]; simp [h] <;> omega), rfl⟩
theorem rget_three (x : Int) (w : World) (x0 : 0 ≤ x) (x1 : x < 4294967296) (hfar : farB (x / 16777216) = false) (hthree : threeB (x / 16777216) = true) :
    Calls Tryz.prog 13 #[.int .u32 x] w fun e w' => e = .returned (if rightB (x / 16777216) (x / 1048576 % 16) (x / 65536 % 16) (x % 65536) 0 = true then .tuple #[.agg (insV (x / 16777216) (x / 1048576 % 16) (x / 65536 % 16) (x % 65536) 0), .bool true] else .tuple #[.agg (insV 0 0 0 0 0), .bool false]) ∧ Below w.heap.size w w' := by
  have HRR : Hid (∀ wx, Calls Tryz.prog 29 #[.agg #[.int .i64 (x / 16777216), .int .i64 (x / 1048576 % 16), .int .i64 (x / 65536 % 16), .int .i64 (x % 65536), .int .i64 0]] wx fun e w' => e = .returned (.bool (rightB (x / 16777216) (x / 1048576 % 16) (x / 65536 % 16) (x % 65536) 0)) ∧ Below wx.heap.size wx w') := fun wx => rright_any _ _ _ _ _ wx
  generalize rightB (x / 16777216) (x / 1048576 % 16) (x / 65536 % 16) (x % 65536) 0 = q at *
  cases q
  · rw [if_neg (by decide)]
    go_enter Tryz.func13, Tryz.ntmps13
    go_wp2_with (first
      | (go_at_call 24; refine (far_any _ _).mono ?_; rintro e w' ⟨rfl, rfl⟩; rw [hfar])
      | (go_at_call 26; refine (three_any _ _).mono ?_; rintro e w' ⟨rfl, rfl⟩; rw [hthree]))
    refine Calls.mono (HRR.out _) ?_
    rintro e w1 ⟨rfl, hb⟩
    obtain ⟨hc1, hc2, hf1, hf2, hs⟩ := two_new hb
    have hs0 : w.heap.size < w1.heap.size := by omega
    have z0 := hc1 0 (.int .i64 0) rfl
    have z1 := hc1 1 (.int .i64 0) rfl
    have z2 := hc1 2 (.int .i64 0) rfl
    have z3 := hc1 3 (.int .i64 0) rfl
    have z4 := hc1 4 (.int .i64 0) rfl
    have y0 := hc2 0 (.int .i64 (x / 16777216)) rfl
    have y1 := hc2 1 (.int .i64 (x / 1048576 % 16)) rfl
    have y2 := hc2 2 (.int .i64 (x / 65536 % 16)) rfl
    have y3 := hc2 3 (.int .i64 (x % 65536)) rfl
    have y4 := hc2 4 (.int .i64 0) rfl
    have HB : Hid (Below w.heap.size w w1) := (((Below.refl _ _).alloc (Nat.le_refl _) _).alloc (by simp) _).trans (hb.mono (by simp; omega))
    clear hb hc1 hc2
    go_wp2
    refine bodyPost_ret (v := Value.tuple #[.agg (insV 0 0 0 0 0), .bool false]) ?_ rfl ⟨rfl, five_set' HB.out _ _ _ _ _⟩
    simp [results, Tryz.results13, go_sem, insV, z0, z1, z2, z3, z4]
  · rw [if_pos rfl]
    go_enter Tryz.func13, Tryz.ntmps13
    go_wp2_with (first
      | (go_at_call 24; refine (far_any _ _).mono ?_; rintro e w' ⟨rfl, rfl⟩; rw [hfar])
      | (go_at_call 26; refine (three_any _ _).mono ?_; rintro e w' ⟨rfl, rfl⟩; rw [hthree]))
    refine Calls.mono (HRR.out _) ?_
    rintro e w1 ⟨rfl, hb⟩
    obtain ⟨hc1, hc2, hf1, hf2, hs⟩ := two_new hb
    have hs0 : w.heap.size < w1.heap.size := by omega
    have z0 := hc1 0 (.int .i64 0) rfl
    have z1 := hc1 1 (.int .i64 0) rfl
    have z2 := hc1 2 (.int .i64 0) rfl
    have z3 := hc1 3 (.int .i64 0) rfl
    have z4 := hc1 4 (.int .i64 0) rfl
    have y0 := hc2 0 (.int .i64 (x / 16777216)) rfl
    have y1 := hc2 1 (.int .i64 (x / 1048576 % 16)) rfl
    have y2 := hc2 2 (.int .i64 (x / 65536 % 16)) rfl
    have y3 := hc2 3 (.int .i64 (x % 65536)) rfl
    have y4 := hc2 4 (.int .i64 0) rfl
    have HB : Hid (Below w.heap.size w w1) := (((Below.refl _ _).alloc (Nat.le_refl _) _).alloc (by simp) _).trans (hb.mono (by simp; omega))
    clear hb hc1 hc2
    go_wp2
    refine bodyPost_ret (v := Value.tuple #[.agg (insV (x / 16777216) (x / 1048576 % 16) (x / 65536 % 16) (x % 65536) 0), .bool true]) ?_ rfl ⟨rfl, five_set' HB.out _ _ _ _ _⟩
    simp [results, Tryz.results13, go_sem, insV, z0, z1, z2, z3, z4]
theorem rget_near (x : Int) (w : World) (x0 : 0 ≤ x) (x1 : x < 4294967296) (hfar : farB (x / 16777216) = false) (hthree : threeB (x / 16777216) = false) (hnear : nearB (x / 16777216) = true) :
    Calls Tryz.prog 13 #[.int .u32 x] w fun e w' => e = .returned (if rightB (x / 16777216) (x / 1048576 % 16) (x / 65536 % 16) 0 (signZ x 16) = true then .tuple #[.agg (insV (x / 16777216) (x / 1048576 % 16) (x / 65536 % 16) 0 (signZ x 16)), .bool true] else .tuple #[.agg (insV 0 0 0 0 0), .bool false]) ∧ Below w.heap.size w w' := by
  have HR : Hid (∀ wx, Calls Tryz.prog 25 #[.int .u32 x, .int .i64 16] wx fun e w' => e = .returned (.int .i64 (signZ x 16)) ∧ w' = wx) := fun wx => rsign_any x 16 wx x0 x1
  obtain ⟨g0, g1⟩ := sign_bd x 16
  generalize signZ x 16 = si at *
  have HRR : Hid (∀ wx, Calls Tryz.prog 29 #[.agg #[.int .i64 (x / 16777216), .int .i64 (x / 1048576 % 16), .int .i64 (x / 65536 % 16), .int .i64 0, .int .i64 si]] wx fun e w' => e = .returned (.bool (rightB (x / 16777216) (x / 1048576 % 16) (x / 65536 % 16) 0 si)) ∧ Below wx.heap.size wx w') := fun wx => rright_any _ _ _ _ _ wx
  generalize rightB (x / 16777216) (x / 1048576 % 16) (x / 65536 % 16) 0 si = q at *
  cases q
  · rw [if_neg (by decide)]
    go_enter Tryz.func13, Tryz.ntmps13
    go_wp2_with (first
      | (go_at_call 24; refine (far_any _ _).mono ?_; rintro e w' ⟨rfl, rfl⟩; rw [hfar])
      | (go_at_call 26; refine (three_any _ _).mono ?_; rintro e w' ⟨rfl, rfl⟩; rw [hthree])
      | (go_at_call 27; refine (near_any _ _).mono ?_; rintro e w' ⟨rfl, rfl⟩; rw [hnear])
      | (go_at_call 25; refine Calls.mono (HR.out _) ?_; rintro e w' ⟨rfl, rfl⟩))
    refine Calls.mono (HRR.out _) ?_
    rintro e w1 ⟨rfl, hb⟩
    obtain ⟨hc1, hc2, hf1, hf2, hs⟩ := two_new hb
    have hs0 : w.heap.size < w1.heap.size := by omega
    have z0 := hc1 0 (.int .i64 0) rfl
    have z1 := hc1 1 (.int .i64 0) rfl
    have z2 := hc1 2 (.int .i64 0) rfl
    have z3 := hc1 3 (.int .i64 0) rfl
    have z4 := hc1 4 (.int .i64 0) rfl
    have y0 := hc2 0 (.int .i64 (x / 16777216)) rfl
    have y1 := hc2 1 (.int .i64 (x / 1048576 % 16)) rfl
    have y2 := hc2 2 (.int .i64 (x / 65536 % 16)) rfl
    have y3 := hc2 3 (.int .i64 0) rfl
    have y4 := hc2 4 (.int .i64 si) rfl
    have HB : Hid (Below w.heap.size w w1) := (((Below.refl _ _).alloc (Nat.le_refl _) _).alloc (by simp) _).trans (hb.mono (by simp; omega))
    clear hb hc1 hc2
    go_wp2
    refine bodyPost_ret (v := Value.tuple #[.agg (insV 0 0 0 0 0), .bool false]) ?_ rfl ⟨rfl, five_set' HB.out _ _ _ _ _⟩
    simp [results, Tryz.results13, go_sem, insV, z0, z1, z2, z3, z4]
  · rw [if_pos rfl]
    go_enter Tryz.func13, Tryz.ntmps13
    go_wp2_with (first
      | (go_at_call 24; refine (far_any _ _).mono ?_; rintro e w' ⟨rfl, rfl⟩; rw [hfar])
      | (go_at_call 26; refine (three_any _ _).mono ?_; rintro e w' ⟨rfl, rfl⟩; rw [hthree])
      | (go_at_call 27; refine (near_any _ _).mono ?_; rintro e w' ⟨rfl, rfl⟩; rw [hnear])
      | (go_at_call 25; refine Calls.mono (HR.out _) ?_; rintro e w' ⟨rfl, rfl⟩))
    refine Calls.mono (HRR.out _) ?_
    rintro e w1 ⟨rfl, hb⟩
    obtain ⟨hc1, hc2, hf1, hf2, hs⟩ := two_new hb
    have hs0 : w.heap.size < w1.heap.size := by omega
    have z0 := hc1 0 (.int .i64 0) rfl
    have z1 := hc1 1 (.int .i64 0) rfl
    have z2 := hc1 2 (.int .i64 0) rfl
    have z3 := hc1 3 (.int .i64 0) rfl
    have z4 := hc1 4 (.int .i64 0) rfl
    have y0 := hc2 0 (.int .i64 (x / 16777216)) rfl
    have y1 := hc2 1 (.int .i64 (x / 1048576 % 16)) rfl
    have y2 := hc2 2 (.int .i64 (x / 65536 % 16)) rfl
    have y3 := hc2 3 (.int .i64 0) rfl
    have y4 := hc2 4 (.int .i64 si) rfl
    have HB : Hid (Below w.heap.size w w1) := (((Below.refl _ _).alloc (Nat.le_refl _) _).alloc (by simp) _).trans (hb.mono (by simp; omega))
    clear hb hc1 hc2
    go_wp2
    refine bodyPost_ret (v := Value.tuple #[.agg (insV (x / 16777216) (x / 1048576 % 16) (x / 65536 % 16) 0 si), .bool true]) ?_ rfl ⟨rfl, five_set' HB.out _ _ _ _ _⟩
    simp [results, Tryz.results13, go_sem, insV, z0, z1, z2, z3, z4]
theorem rget_branch (x : Int) (w : World) (x0 : 0 ≤ x) (x1 : x < 4294967296) (hfar : farB (x / 16777216) = false) (hthree : threeB (x / 16777216) = false) (hnear : nearB (x / 16777216) = false) (hbranch : branchB (x / 16777216) = true) (hle : x % 65536 ≤ 255) :
    Calls Tryz.prog 13 #[.int .u32 x] w fun e w' => e = .returned (if rightB (x / 16777216) (x / 1048576 % 16) (x / 65536 % 16) 0 (signZ x 8) = true then .tuple #[.agg (insV (x / 16777216) (x / 1048576 % 16) (x / 65536 % 16) 0 (signZ x 8)), .bool true] else .tuple #[.agg (insV 0 0 0 0 0), .bool false]) ∧ Below w.heap.size w w' := by
  have HR : Hid (∀ wx, Calls Tryz.prog 25 #[.int .u32 x, .int .i64 8] wx fun e w' => e = .returned (.int .i64 (signZ x 8)) ∧ w' = wx) := fun wx => rsign_any x 8 wx x0 x1
  obtain ⟨g0, g1⟩ := sign_bd x 8
  generalize signZ x 8 = si at *
  have HRR : Hid (∀ wx, Calls Tryz.prog 29 #[.agg #[.int .i64 (x / 16777216), .int .i64 (x / 1048576 % 16), .int .i64 (x / 65536 % 16), .int .i64 0, .int .i64 si]] wx fun e w' => e = .returned (.bool (rightB (x / 16777216) (x / 1048576 % 16) (x / 65536 % 16) 0 si)) ∧ Below wx.heap.size wx w') := fun wx => rright_any _ _ _ _ _ wx
  generalize rightB (x / 16777216) (x / 1048576 % 16) (x / 65536 % 16) 0 si = q at *
  cases q
  · rw [if_neg (by decide)]
    go_enter Tryz.func13, Tryz.ntmps13
    go_wp2_with (first
      | (go_at_call 24; refine (far_any _ _).mono ?_; rintro e w' ⟨rfl, rfl⟩; rw [hfar])
      | (go_at_call 26; refine (three_any _ _).mono ?_; rintro e w' ⟨rfl, rfl⟩; rw [hthree])
      | (go_at_call 27; refine (near_any _ _).mono ?_; rintro e w' ⟨rfl, rfl⟩; rw [hnear])
      | (go_at_call 28; refine (branch_any _ _).mono ?_; rintro e w' ⟨rfl, rfl⟩; rw [hbranch])
      | (go_at_call 25; refine Calls.mono (HR.out _) ?_; rintro e w' ⟨rfl, rfl⟩))
    refine Calls.mono (HRR.out _) ?_
    rintro e w1 ⟨rfl, hb⟩
    obtain ⟨hc1, hc2, hf1, hf2, hs⟩ := two_new hb
    have hs0 : w.heap.size < w1.heap.size := by omega
    have z0 := hc1 0 (.int .i64 0) rfl
    have z1 := hc1 1 (.int .i64 0) rfl
    have z2 := hc1 2 (.int .i64 0) rfl
    have z3 := hc1 3 (.int .i64 0) rfl
    have z4 := hc1 4 (.int .i64 0) rfl
    have y0 := hc2 0 (.int .i64 (x / 16777216)) rfl
    have y1 := hc2 1 (.int .i64 (x / 1048576 % 16)) rfl
    have y2 := hc2 2 (.int .i64 (x / 65536 % 16)) rfl
    have y3 := hc2 3 (.int .i64 0) rfl
    have y4 := hc2 4 (.int .i64 si) rfl
    have HB : Hid (Below w.heap.size w w1) := (((Below.refl _ _).alloc (Nat.le_refl _) _).alloc (by simp) _).trans (hb.mono (by simp; omega))
    clear hb hc1 hc2
    go_wp2
    refine bodyPost_ret (v := Value.tuple #[.agg (insV 0 0 0 0 0), .bool false]) ?_ rfl ⟨rfl, five_set' HB.out _ _ _ _ _⟩
    simp [results, Tryz.results13, go_sem, insV, z0, z1, z2, z3, z4]
  · rw [if_pos rfl]
    go_enter Tryz.func13, Tryz.ntmps13
    go_wp2_with (first
      | (go_at_call 24; refine (far_any _ _).mono ?_; rintro e w' ⟨rfl, rfl⟩; rw [hfar])
      | (go_at_call 26; refine (three_any _ _).mono ?_; rintro e w' ⟨rfl, rfl⟩; rw [hthree])
      | (go_at_call 27; refine (near_any _ _).mono ?_; rintro e w' ⟨rfl, rfl⟩; rw [hnear])
      | (go_at_call 28; refine (branch_any _ _).mono ?_; rintro e w' ⟨rfl, rfl⟩; rw [hbranch])
      | (go_at_call 25; refine Calls.mono (HR.out _) ?_; rintro e w' ⟨rfl, rfl⟩))
    refine Calls.mono (HRR.out _) ?_
    rintro e w1 ⟨rfl, hb⟩
    obtain ⟨hc1, hc2, hf1, hf2, hs⟩ := two_new hb
    have hs0 : w.heap.size < w1.heap.size := by omega
    have z0 := hc1 0 (.int .i64 0) rfl
    have z1 := hc1 1 (.int .i64 0) rfl
    have z2 := hc1 2 (.int .i64 0) rfl
    have z3 := hc1 3 (.int .i64 0) rfl
    have z4 := hc1 4 (.int .i64 0) rfl
    have y0 := hc2 0 (.int .i64 (x / 16777216)) rfl
    have y1 := hc2 1 (.int .i64 (x / 1048576 % 16)) rfl
    have y2 := hc2 2 (.int .i64 (x / 65536 % 16)) rfl
    have y3 := hc2 3 (.int .i64 0) rfl
    have y4 := hc2 4 (.int .i64 si) rfl
    have HB : Hid (Below w.heap.size w w1) := (((Below.refl _ _).alloc (Nat.le_refl _) _).alloc (by simp) _).trans (hb.mono (by simp; omega))
    clear hb hc1 hc2
    go_wp2
    refine bodyPost_ret (v := Value.tuple #[.agg (insV (x / 16777216) (x / 1048576 % 16) (x / 65536 % 16) 0 si), .bool true]) ?_ rfl ⟨rfl, five_set' HB.out _ _ _ _ _⟩
    simp [results, Tryz.results13, go_sem, insV, z0, z1, z2, z3, z4]
theorem rget_far (x : Int) (w : World) (x0 : 0 ≤ x) (x1 : x < 4294967296) (hfar : farB (x / 16777216) = true) (hthree : threeB (x / 16777216) = false) (hnear : nearB (x / 16777216) = false) (hbranch : branchB (x / 16777216) = false) :
    Calls Tryz.prog 13 #[.int .u32 x] w fun e w' => e = .returned (if rightB (x / 16777216) 0 0 0 (signZ x 24) = true then .tuple #[.agg (insV (x / 16777216) 0 0 0 (signZ x 24)), .bool true] else .tuple #[.agg (insV 0 0 0 0 0), .bool false]) ∧ Below w.heap.size w w' := by
  have HR : Hid (∀ wx, Calls Tryz.prog 25 #[.int .u32 x, .int .i64 24] wx fun e w' => e = .returned (.int .i64 (signZ x 24)) ∧ w' = wx) := fun wx => rsign_any x 24 wx x0 x1
  obtain ⟨g0, g1⟩ := sign_bd x 24
  generalize signZ x 24 = si at *
  have HRR : Hid (∀ wx, Calls Tryz.prog 29 #[.agg #[.int .i64 (x / 16777216), .int .i64 0, .int .i64 0, .int .i64 0, .int .i64 si]] wx fun e w' => e = .returned (.bool (rightB (x / 16777216) 0 0 0 si)) ∧ Below wx.heap.size wx w') := fun wx => rright_any _ _ _ _ _ wx
  generalize rightB (x / 16777216) 0 0 0 si = q at *
  cases q
  · rw [if_neg (by decide)]
    go_enter Tryz.func13, Tryz.ntmps13
    go_wp2_with (first
      | (go_at_call 24; refine (far_any _ _).mono ?_; rintro e w' ⟨rfl, rfl⟩; rw [hfar])
      | (go_at_call 26; refine (three_any _ _).mono ?_; rintro e w' ⟨rfl, rfl⟩; rw [hthree])
      | (go_at_call 27; refine (near_any _ _).mono ?_; rintro e w' ⟨rfl, rfl⟩; rw [hnear])
      | (go_at_call 28; refine (branch_any _ _).mono ?_; rintro e w' ⟨rfl, rfl⟩; rw [hbranch])
      | (go_at_call 25; refine Calls.mono (HR.out _) ?_; rintro e w' ⟨rfl, rfl⟩))
    refine Calls.mono (HRR.out _) ?_
    rintro e w1 ⟨rfl, hb⟩
    obtain ⟨hc1, hc2, hf1, hf2, hs⟩ := two_new hb
    have hs0 : w.heap.size < w1.heap.size := by omega
    have z0 := hc1 0 (.int .i64 0) rfl
    have z1 := hc1 1 (.int .i64 0) rfl
    have z2 := hc1 2 (.int .i64 0) rfl
    have z3 := hc1 3 (.int .i64 0) rfl
    have z4 := hc1 4 (.int .i64 0) rfl
    have y0 := hc2 0 (.int .i64 (x / 16777216)) rfl
    have y1 := hc2 1 (.int .i64 0) rfl
    have y2 := hc2 2 (.int .i64 0) rfl
    have y3 := hc2 3 (.int .i64 0) rfl
    have y4 := hc2 4 (.int .i64 si) rfl
    have HB : Hid (Below w.heap.size w w1) := (((Below.refl _ _).alloc (Nat.le_refl _) _).alloc (by simp) _).trans (hb.mono (by simp; omega))
    clear hb hc1 hc2
    go_wp2
    refine bodyPost_ret (v := Value.tuple #[.agg (insV 0 0 0 0 0), .bool false]) ?_ rfl ⟨rfl, five_set' HB.out _ _ _ _ _⟩
    simp [results, Tryz.results13, go_sem, insV, z0, z1, z2, z3, z4]
  · rw [if_pos rfl]
    go_enter Tryz.func13, Tryz.ntmps13
    go_wp2_with (first
      | (go_at_call 24; refine (far_any _ _).mono ?_; rintro e w' ⟨rfl, rfl⟩; rw [hfar])
      | (go_at_call 26; refine (three_any _ _).mono ?_; rintro e w' ⟨rfl, rfl⟩; rw [hthree])
      | (go_at_call 27; refine (near_any _ _).mono ?_; rintro e w' ⟨rfl, rfl⟩; rw [hnear])
      | (go_at_call 28; refine (branch_any _ _).mono ?_; rintro e w' ⟨rfl, rfl⟩; rw [hbranch])
      | (go_at_call 25; refine Calls.mono (HR.out _) ?_; rintro e w' ⟨rfl, rfl⟩))
    refine Calls.mono (HRR.out _) ?_
    rintro e w1 ⟨rfl, hb⟩
    obtain ⟨hc1, hc2, hf1, hf2, hs⟩ := two_new hb
    have hs0 : w.heap.size < w1.heap.size := by omega
    have z0 := hc1 0 (.int .i64 0) rfl
    have z1 := hc1 1 (.int .i64 0) rfl
    have z2 := hc1 2 (.int .i64 0) rfl
    have z3 := hc1 3 (.int .i64 0) rfl
    have z4 := hc1 4 (.int .i64 0) rfl
    have y0 := hc2 0 (.int .i64 (x / 16777216)) rfl
    have y1 := hc2 1 (.int .i64 0) rfl
    have y2 := hc2 2 (.int .i64 0) rfl
    have y3 := hc2 3 (.int .i64 0) rfl
    have y4 := hc2 4 (.int .i64 si) rfl
    have HB : Hid (Below w.heap.size w w1) := (((Below.refl _ _).alloc (Nat.le_refl _) _).alloc (by simp) _).trans (hb.mono (by simp; omega))
    clear hb hc1 hc2
    go_wp2
    refine bodyPost_ret (v := Value.tuple #[.agg (insV (x / 16777216) 0 0 0 si), .bool true]) ?_ rfl ⟨rfl, five_set' HB.out _ _ _ _ _⟩
    simp [results, Tryz.results13, go_sem, insV, z0, z1, z2, z3, z4]
theorem rget_other (x : Int) (w : World) (x0 : 0 ≤ x) (x1 : x < 4294967296) (hfar : farB (x / 16777216) = false) (hthree : threeB (x / 16777216) = false) (hnear : nearB (x / 16777216) = false) (hbranch : branchB (x / 16777216) = false) :
    Calls Tryz.prog 13 #[.int .u32 x] w fun e w' => e = .returned (if rightB (x / 16777216) (x / 1048576 % 16) (x / 65536 % 16) 0 (x % 65536) = true then .tuple #[.agg (insV (x / 16777216) (x / 1048576 % 16) (x / 65536 % 16) 0 (x % 65536)), .bool true] else .tuple #[.agg (insV 0 0 0 0 0), .bool false]) ∧ Below w.heap.size w w' := by
  have HRR : Hid (∀ wx, Calls Tryz.prog 29 #[.agg #[.int .i64 (x / 16777216), .int .i64 (x / 1048576 % 16), .int .i64 (x / 65536 % 16), .int .i64 0, .int .i64 (x % 65536)]] wx fun e w' => e = .returned (.bool (rightB (x / 16777216) (x / 1048576 % 16) (x / 65536 % 16) 0 (x % 65536))) ∧ Below wx.heap.size wx w') := fun wx => rright_any _ _ _ _ _ wx
  generalize rightB (x / 16777216) (x / 1048576 % 16) (x / 65536 % 16) 0 (x % 65536) = q at *
  cases q
  · rw [if_neg (by decide)]
    go_enter Tryz.func13, Tryz.ntmps13
    go_wp2_with (first
      | (go_at_call 24; refine (far_any _ _).mono ?_; rintro e w' ⟨rfl, rfl⟩; rw [hfar])
      | (go_at_call 26; refine (three_any _ _).mono ?_; rintro e w' ⟨rfl, rfl⟩; rw [hthree])
      | (go_at_call 27; refine (near_any _ _).mono ?_; rintro e w' ⟨rfl, rfl⟩; rw [hnear])
      | (go_at_call 28; refine (branch_any _ _).mono ?_; rintro e w' ⟨rfl, rfl⟩; rw [hbranch]))
    refine Calls.mono (HRR.out _) ?_
    rintro e w1 ⟨rfl, hb⟩
    obtain ⟨hc1, hc2, hf1, hf2, hs⟩ := two_new hb
    have hs0 : w.heap.size < w1.heap.size := by omega
    have z0 := hc1 0 (.int .i64 0) rfl
    have z1 := hc1 1 (.int .i64 0) rfl
    have z2 := hc1 2 (.int .i64 0) rfl
    have z3 := hc1 3 (.int .i64 0) rfl
    have z4 := hc1 4 (.int .i64 0) rfl
    have y0 := hc2 0 (.int .i64 (x / 16777216)) rfl
    have y1 := hc2 1 (.int .i64 (x / 1048576 % 16)) rfl
    have y2 := hc2 2 (.int .i64 (x / 65536 % 16)) rfl
    have y3 := hc2 3 (.int .i64 0) rfl
    have y4 := hc2 4 (.int .i64 (x % 65536)) rfl
    have HB : Hid (Below w.heap.size w w1) := (((Below.refl _ _).alloc (Nat.le_refl _) _).alloc (by simp) _).trans (hb.mono (by simp; omega))
    clear hb hc1 hc2
    go_wp2
    refine bodyPost_ret (v := Value.tuple #[.agg (insV 0 0 0 0 0), .bool false]) ?_ rfl ⟨rfl, five_set' HB.out _ _ _ _ _⟩
    simp [results, Tryz.results13, go_sem, insV, z0, z1, z2, z3, z4]
  · rw [if_pos rfl]
    go_enter Tryz.func13, Tryz.ntmps13
    go_wp2_with (first
      | (go_at_call 24; refine (far_any _ _).mono ?_; rintro e w' ⟨rfl, rfl⟩; rw [hfar])
      | (go_at_call 26; refine (three_any _ _).mono ?_; rintro e w' ⟨rfl, rfl⟩; rw [hthree])
      | (go_at_call 27; refine (near_any _ _).mono ?_; rintro e w' ⟨rfl, rfl⟩; rw [hnear])
      | (go_at_call 28; refine (branch_any _ _).mono ?_; rintro e w' ⟨rfl, rfl⟩; rw [hbranch]))
    refine Calls.mono (HRR.out _) ?_
    rintro e w1 ⟨rfl, hb⟩
    obtain ⟨hc1, hc2, hf1, hf2, hs⟩ := two_new hb
    have hs0 : w.heap.size < w1.heap.size := by omega
    have z0 := hc1 0 (.int .i64 0) rfl
    have z1 := hc1 1 (.int .i64 0) rfl
    have z2 := hc1 2 (.int .i64 0) rfl
    have z3 := hc1 3 (.int .i64 0) rfl
    have z4 := hc1 4 (.int .i64 0) rfl
    have y0 := hc2 0 (.int .i64 (x / 16777216)) rfl
    have y1 := hc2 1 (.int .i64 (x / 1048576 % 16)) rfl
    have y2 := hc2 2 (.int .i64 (x / 65536 % 16)) rfl
    have y3 := hc2 3 (.int .i64 0) rfl
    have y4 := hc2 4 (.int .i64 (x % 65536)) rfl
    have HB : Hid (Below w.heap.size w w1) := (((Below.refl _ _).alloc (Nat.le_refl _) _).alloc (by simp) _).trans (hb.mono (by simp; omega))
    clear hb hc1 hc2
    go_wp2
    refine bodyPost_ret (v := Value.tuple #[.agg (insV (x / 16777216) (x / 1048576 % 16) (x / 65536 % 16) 0 (x % 65536)), .bool true]) ?_ rfl ⟨rfl, five_set' HB.out _ _ _ _ _⟩
    simp [results, Tryz.results13, go_sem, insV, z0, z1, z2, z3, z4]
end Go.Proofs.YtnejpldbokodaaaGreatDoor
