/- What the document's own answers to 'its word' and 'its instruction' return: one contract a function. -/
import Derived.Test.YtombfnnpdamlgaaDoorCodeWords
import Derived.Test.YtombfnnpdamlgaaDoorCodeRef
namespace Go.Proofs.YtombfnnpdamlgaaDoor
open Go.ChangeShapes Go.WideShapes Go.ChangeAt Go.RowKit
set_option linter.unusedVariables false

theorem cut_bd8 (x : Int) : 0 ≤ cutZ x 8 ∧ cutZ x 8 < 256 := by rw [cut_8]; omega
theorem cut_bd16 (x : Int) : 0 ≤ cutZ x 16 ∧ cutZ x 16 < 65536 := by rw [cut_16]; omega
theorem cut_bd24 (x : Int) : 0 ≤ cutZ x 24 ∧ cutZ x 24 < 16777216 := by rw [cut_24]; omega

theorem imm_none (op a b c imm : Int) (hr : rightB op a b c imm = true) (h : op ≤ 7 ∨ 21 ≤ op) : imm = 0 := by
  rcases (by omega : op < 0 ∨ 26 ≤ op ∨ (1 ≤ op ∧ op ≤ 7) ∨ (op = 0 ∨ op = 22 ∨ op = 23) ∨ (op = 21 ∨ op = 24 ∨ op = 25)) with g | g | g | g | g
  · rw [right_out _ _ _ _ _ (Or.inl g)] at hr; cases hr
  · rw [right_out _ _ _ _ _ (Or.inr g)] at hr; cases hr
  · rw [right_three _ _ _ _ _ g] at hr; simp at hr; omega
  · rw [right_one _ _ _ _ _ g] at hr; simp at hr; omega
  · rw [right_no _ _ _ _ _ g] at hr; simp at hr; omega

theorem rput_branch (op a b c imm : Int) (w : World) (h1 : 15 ≤ op) (h2 : op ≤ 18) (hr : rightB op a b c imm = true) :
    Calls Tryd.prog 28 #[.agg #[.int .i64 op, .int .i64 a, .int .i64 b, .int .i64 c, .int .i64 imm]] w fun e w' => e = .returned (.int .u32 (putZ op a b c imm)) ∧ Below w.heap.size w w' := by
  have hc : c = 0 := (right_none _ _ _ _ _ hr).1 (by rw [(has_branch op ⟨h1, h2⟩).1]; omega)
  obtain ⟨a0, a1, b0, b1, _, _⟩ := right_regs _ _ _ _ _ hr
  have HP : Hid (putZ op a b c imm = op * 16777216 + a * 1048576 + b * 65536 + c + cutZ imm 8) := by unfold Hid putZ; rw [(has_branch op ⟨h1, h2⟩).2.1]
  have q19 : (op == 19) = false := by simp; omega
  have q20 : (op == 20) = false := by simp; omega
  subst hc
  obtain ⟨u0, u1⟩ := cut_bd8 imm
  clear hr
  go_enter Tryd.func28, Tryd.ntmps28
  go_wp2
  go_quiet ((go_at_call 44; exact Calls.quiet_of_same (rcut_any _ _ _)))
  go_wp2
  go_ret
  exact ⟨by rw [HP.out]; exact ret_int (by simp <;> omega), below_drewN ((Below.refl _ _).alloc (Nat.le_refl _) _) _⟩
theorem rput_far19 (a b c imm : Int) (w : World)  (hr : rightB 19 a b c imm = true) :
    Calls Tryd.prog 28 #[.agg #[.int .i64 19, .int .i64 a, .int .i64 b, .int .i64 c, .int .i64 imm]] w fun e w' => e = .returned (.int .u32 (putZ 19 a b c imm)) ∧ Below w.heap.size w w' := by
  have hn := right_none _ _ _ _ _ hr
  rw [(has_far 19 (by omega)).1] at hn
  have hc : c = 0 := hn.1 (by omega)
  have hb : b = 0 := hn.2.1 (by omega)
  have ha : a = 0 := hn.2.2 (by omega)
  have HP : Hid (putZ 19 a b c imm = 19 * 16777216 + a * 1048576 + b * 65536 + c + cutZ imm 24) := by unfold Hid putZ; rw [(has_far 19 (by omega)).2.1]
  subst ha hb hc
  clear hn
  obtain ⟨u0, u1⟩ := cut_bd24 imm
  clear hr
  go_enter Tryd.func28, Tryd.ntmps28
  go_wp2
  go_quiet ((go_at_call 44; exact Calls.quiet_of_same (rcut_any _ _ _)))
  go_wp2
  go_ret
  exact ⟨by rw [HP.out]; exact ret_int (by simp <;> omega), below_drewN ((Below.refl _ _).alloc (Nat.le_refl _) _) _⟩
theorem rput_far20 (a b c imm : Int) (w : World)  (hr : rightB 20 a b c imm = true) :
    Calls Tryd.prog 28 #[.agg #[.int .i64 20, .int .i64 a, .int .i64 b, .int .i64 c, .int .i64 imm]] w fun e w' => e = .returned (.int .u32 (putZ 20 a b c imm)) ∧ Below w.heap.size w w' := by
  have hn := right_none _ _ _ _ _ hr
  rw [(has_far 20 (by omega)).1] at hn
  have hc : c = 0 := hn.1 (by omega)
  have hb : b = 0 := hn.2.1 (by omega)
  have ha : a = 0 := hn.2.2 (by omega)
  have HP : Hid (putZ 20 a b c imm = 20 * 16777216 + a * 1048576 + b * 65536 + c + cutZ imm 24) := by unfold Hid putZ; rw [(has_far 20 (by omega)).2.1]
  subst ha hb hc
  clear hn
  obtain ⟨u0, u1⟩ := cut_bd24 imm
  clear hr
  go_enter Tryd.func28, Tryd.ntmps28
  go_wp2
  go_quiet ((go_at_call 44; exact Calls.quiet_of_same (rcut_any _ _ _)))
  go_wp2
  go_ret
  exact ⟨by rw [HP.out]; exact ret_int (by simp <;> omega), below_drewN ((Below.refl _ _).alloc (Nat.le_refl _) _) _⟩
theorem rput_other (op a b c imm : Int) (w : World) (h : op ≤ 14 ∨ 21 ≤ op) (o0 : 0 ≤ op) (o1 : op < 26) (hr : rightB op a b c imm = true) :
    Calls Tryd.prog 28 #[.agg #[.int .i64 op, .int .i64 a, .int .i64 b, .int .i64 c, .int .i64 imm]] w fun e w' => e = .returned (.int .u32 (putZ op a b c imm)) ∧ Below w.heap.size w w' := by
  obtain ⟨a0, a1, b0, b1, c0, c1⟩ := right_regs _ _ _ _ _ hr
  have HP : Hid (putZ op a b c imm = op * 16777216 + a * 1048576 + b * 65536 + c + cutZ imm 16) := by
    unfold Hid putZ
    rcases kinds op o0 o1 with ⟨hw, g⟩ | ⟨hw, _⟩ | ⟨hw, _, _, _⟩ | ⟨hw, _, _⟩
    · rw [imm_none _ _ _ _ _ hr g, hw]; rfl
    · rw [hw]
    · omega
    · omega
  have q19 : (op == 19) = false := by simp; omega
  have q20 : (op == 20) = false := by simp; omega
  obtain ⟨u0, u1⟩ := cut_bd16 imm
  clear hr
  go_enter Tryd.func28, Tryd.ntmps28
  go_wp2
  all_goals
    go_quiet ((go_at_call 44; exact Calls.quiet_of_same (rcut_any _ _ _)))
    go_wp2
    go_ret
    exact ⟨by rw [HP.out]; exact ret_int (by simp <;> omega), below_drewN ((Below.refl _ _).alloc (Nat.le_refl _) _) _⟩

theorem rputI_any (op a b c imm : Int) (w : World) (hr : rightB op a b c imm = true) :
    Calls Tryd.prog 28 #[.agg #[.int .i64 op, .int .i64 a, .int .i64 b, .int .i64 c, .int .i64 imm]] w fun e w' => e = .returned (.int .u32 (putZ op a b c imm)) ∧ Below w.heap.size w w' := by
  have hop : 0 ≤ op ∧ op < 26 := by simp [rightB] at hr; omega
  rcases (by omega : (15 ≤ op ∧ op ≤ 18) ∨ op = 19 ∨ op = 20 ∨ (op ≤ 14 ∨ 21 ≤ op)) with g | rfl | rfl | g
  · exact rput_branch op a b c imm w g.1 g.2 hr
  · exact rput_far19 a b c imm w hr
  · exact rput_far20 a b c imm w hr
  · exact rput_other op a b c imm w g hop.1 hop.2 hr

def threeB (op : Int) : Bool := decide (1 ≤ op ∧ op ≤ 7)
def nearB (op : Int) : Bool := decide (op = 8 ∨ 11 ≤ op ∧ op ≤ 14)
def branchB (op : Int) : Bool := decide (15 ≤ op ∧ op ≤ 18)
def farB (op : Int) : Bool := decide (op = 19 ∨ op = 20)
theorem three_any (op : Int) (w : World) : Calls Tryd.prog 34 #[.int .i64 op] w fun e w' => e = .returned (.bool (threeB op)) ∧ w' = w := by
  by_cases h : 1 ≤ op
  all_goals
    go_enter Tryd.func34, Tryd.ntmps34
    go_wp2
    go_ret
    exact ⟨ret_bool (by unfold threeB; simp <;> omega), rfl⟩
theorem branch_any (op : Int) (w : World) : Calls Tryd.prog 36 #[.int .i64 op] w fun e w' => e = .returned (.bool (branchB op)) ∧ w' = w := by
  by_cases h : 15 ≤ op
  all_goals
    go_enter Tryd.func36, Tryd.ntmps36
    go_wp2
    go_ret
    exact ⟨ret_bool (by unfold branchB; simp <;> omega), rfl⟩
theorem far_any (op : Int) (w : World) : Calls Tryd.prog 32 #[.int .i64 op] w fun e w' => e = .returned (.bool (farB op)) ∧ w' = w := by
  by_cases h : op = 19
  · subst h
    go_enter Tryd.func32, Tryd.ntmps32
    go_wp2
    go_ret
    exact ⟨rfl, rfl⟩
  · have q : (op == 19) = false := by simp [h]
    go_enter Tryd.func32, Tryd.ntmps32
    go_wp2
    go_ret
    exact ⟨ret_bool (by unfold farB; rw [Bool.eq_iff_iff]; simp [h]), rfl⟩
theorem near_any (op : Int) (w : World) : Calls Tryd.prog 35 #[.int .i64 op] w fun e w' => e = .returned (.bool (nearB op)) ∧ w' = w := by
  by_cases h : op = 8
  · subst h
    go_enter Tryd.func35, Tryd.ntmps35
    go_wp2
    go_ret
    exact ⟨rfl, rfl⟩
  · have q : (op == 8) = false := by simp [h]
    by_cases h1 : 11 ≤ op
    all_goals
      go_enter Tryd.func35, Tryd.ntmps35
      go_wp2
      go_ret
      exact ⟨ret_bool (by unfold nearB; rw [Bool.eq_iff_iff]; simp [h] <;> omega), rfl⟩
theorem rget_three (x : Int) (w : World) (x0 : 0 ≤ x) (x1 : x < 4294967296) (hfar : farB (x / 16777216) = false) (hthree : threeB (x / 16777216) = true) :
    Calls Tryd.prog 17 #[.int .u32 x] w fun e w' => e = .returned (if rightB (x / 16777216) (x / 1048576 % 16) (x / 65536 % 16) (x % 65536) 0 = true then .tuple #[.agg (insV (x / 16777216) (x / 1048576 % 16) (x / 65536 % 16) (x % 65536) 0), .bool true] else .tuple #[.agg (insV 0 0 0 0 0), .bool false]) ∧ Below w.heap.size w w' := by
  have HRR : Hid (∀ wx, Calls Tryd.prog 37 #[.agg #[.int .i64 (x / 16777216), .int .i64 (x / 1048576 % 16), .int .i64 (x / 65536 % 16), .int .i64 (x % 65536), .int .i64 0]] wx fun e w' => e = .returned (.bool (rightB (x / 16777216) (x / 1048576 % 16) (x / 65536 % 16) (x % 65536) 0)) ∧ Below wx.heap.size wx w') := fun wx => rright_any _ _ _ _ _ wx
  generalize rightB (x / 16777216) (x / 1048576 % 16) (x / 65536 % 16) (x % 65536) 0 = q at *
  cases q
  · rw [if_neg (by decide)]
    go_enter Tryd.func17, Tryd.ntmps17
    go_wp2_with (first
      | (go_at_call 32; refine (far_any _ _).mono ?_; rintro e w' ⟨rfl, rfl⟩; rw [hfar])
      | (go_at_call 34; refine (three_any _ _).mono ?_; rintro e w' ⟨rfl, rfl⟩; rw [hthree]))
    refine Calls.mono (HRR.out _) ?_
    rintro e w1 ⟨rfl, hb⟩
    obtain ⟨hc1, hc2, hf1, hf2, hs⟩ := two_new hb
    have hs0 : w.heap.size < w1.heap.size := by omega
    have z0 := hc1 0 (.int .i64 0) rfl
    have z1 := hc1 1 (.int .i64 0) rfl
    have z2 := hc1 2 (.int .i64 0) rfl
    have z3 := hc1 3 (.int .i64 0) rfl
    have z4 := hc1 4 (.int .i64 0) rfl
    have y0 := hc2 0 (.int .i64 (x / 16777216)) rfl
    have y1 := hc2 1 (.int .i64 (x / 1048576 % 16)) rfl
    have y2 := hc2 2 (.int .i64 (x / 65536 % 16)) rfl
    have y3 := hc2 3 (.int .i64 (x % 65536)) rfl
    have y4 := hc2 4 (.int .i64 0) rfl
    have HB : Hid (Below w.heap.size w w1) := (((Below.refl _ _).alloc (Nat.le_refl _) _).alloc (by simp) _).trans (hb.mono (by simp; omega))
    clear hb hc1 hc2
    go_wp2
    refine bodyPost_ret (v := Value.tuple #[.agg (insV 0 0 0 0 0), .bool false]) ?_ rfl ⟨rfl, five_set' HB.out _ _ _ _ _⟩
    simp [results, Tryd.results17, go_sem, insV, z0, z1, z2, z3, z4]
  · rw [if_pos rfl]
    go_enter Tryd.func17, Tryd.ntmps17
    go_wp2_with (first
      | (go_at_call 32; refine (far_any _ _).mono ?_; rintro e w' ⟨rfl, rfl⟩; rw [hfar])
      | (go_at_call 34; refine (three_any _ _).mono ?_; rintro e w' ⟨rfl, rfl⟩; rw [hthree]))
    refine Calls.mono (HRR.out _) ?_
    rintro e w1 ⟨rfl, hb⟩
    obtain ⟨hc1, hc2, hf1, hf2, hs⟩ := two_new hb
    have hs0 : w.heap.size < w1.heap.size := by omega
    have z0 := hc1 0 (.int .i64 0) rfl
    have z1 := hc1 1 (.int .i64 0) rfl
    have z2 := hc1 2 (.int .i64 0) rfl
    have z3 := hc1 3 (.int .i64 0) rfl
    have z4 := hc1 4 (.int .i64 0) rfl
    have y0 := hc2 0 (.int .i64 (x / 16777216)) rfl
    have y1 := hc2 1 (.int .i64 (x / 1048576 % 16)) rfl
    have y2 := hc2 2 (.int .i64 (x / 65536 % 16)) rfl
    have y3 := hc2 3 (.int .i64 (x % 65536)) rfl
    have y4 := hc2 4 (.int .i64 0) rfl
    have HB : Hid (Below w.heap.size w w1) := (((Below.refl _ _).alloc (Nat.le_refl _) _).alloc (by simp) _).trans (hb.mono (by simp; omega))
    clear hb hc1 hc2
    go_wp2
    refine bodyPost_ret (v := Value.tuple #[.agg (insV (x / 16777216) (x / 1048576 % 16) (x / 65536 % 16) (x % 65536) 0), .bool true]) ?_ rfl ⟨rfl, five_set' HB.out _ _ _ _ _⟩
    simp [results, Tryd.results17, go_sem, insV, z0, z1, z2, z3, z4]
theorem rget_near (x : Int) (w : World) (x0 : 0 ≤ x) (x1 : x < 4294967296) (hfar : farB (x / 16777216) = false) (hthree : threeB (x / 16777216) = false) (hnear : nearB (x / 16777216) = true) :
    Calls Tryd.prog 17 #[.int .u32 x] w fun e w' => e = .returned (if rightB (x / 16777216) (x / 1048576 % 16) (x / 65536 % 16) 0 (signZ x 16) = true then .tuple #[.agg (insV (x / 16777216) (x / 1048576 % 16) (x / 65536 % 16) 0 (signZ x 16)), .bool true] else .tuple #[.agg (insV 0 0 0 0 0), .bool false]) ∧ Below w.heap.size w w' := by
  have HR : Hid (∀ wx, Calls Tryd.prog 33 #[.int .u32 x, .int .i64 16] wx fun e w' => e = .returned (.int .i64 (signZ x 16)) ∧ w' = wx) := fun wx => rsign_any x 16 wx x0 x1
  obtain ⟨g0, g1⟩ := sign_bd x 16
  generalize signZ x 16 = si at *
  have HRR : Hid (∀ wx, Calls Tryd.prog 37 #[.agg #[.int .i64 (x / 16777216), .int .i64 (x / 1048576 % 16), .int .i64 (x / 65536 % 16), .int .i64 0, .int .i64 si]] wx fun e w' => e = .returned (.bool (rightB (x / 16777216) (x / 1048576 % 16) (x / 65536 % 16) 0 si)) ∧ Below wx.heap.size wx w') := fun wx => rright_any _ _ _ _ _ wx
  generalize rightB (x / 16777216) (x / 1048576 % 16) (x / 65536 % 16) 0 si = q at *
  cases q
  · rw [if_neg (by decide)]
    go_enter Tryd.func17, Tryd.ntmps17
    go_wp2_with (first
      | (go_at_call 32; refine (far_any _ _).mono ?_; rintro e w' ⟨rfl, rfl⟩; rw [hfar])
      | (go_at_call 34; refine (three_any _ _).mono ?_; rintro e w' ⟨rfl, rfl⟩; rw [hthree])
      | (go_at_call 35; refine (near_any _ _).mono ?_; rintro e w' ⟨rfl, rfl⟩; rw [hnear])
      | (go_at_call 33; refine Calls.mono (HR.out _) ?_; rintro e w' ⟨rfl, rfl⟩))
    refine Calls.mono (HRR.out _) ?_
    rintro e w1 ⟨rfl, hb⟩
    obtain ⟨hc1, hc2, hf1, hf2, hs⟩ := two_new hb
    have hs0 : w.heap.size < w1.heap.size := by omega
    have z0 := hc1 0 (.int .i64 0) rfl
    have z1 := hc1 1 (.int .i64 0) rfl
    have z2 := hc1 2 (.int .i64 0) rfl
    have z3 := hc1 3 (.int .i64 0) rfl
    have z4 := hc1 4 (.int .i64 0) rfl
    have y0 := hc2 0 (.int .i64 (x / 16777216)) rfl
    have y1 := hc2 1 (.int .i64 (x / 1048576 % 16)) rfl
    have y2 := hc2 2 (.int .i64 (x / 65536 % 16)) rfl
    have y3 := hc2 3 (.int .i64 0) rfl
    have y4 := hc2 4 (.int .i64 si) rfl
    have HB : Hid (Below w.heap.size w w1) := (((Below.refl _ _).alloc (Nat.le_refl _) _).alloc (by simp) _).trans (hb.mono (by simp; omega))
    clear hb hc1 hc2
    go_wp2
    refine bodyPost_ret (v := Value.tuple #[.agg (insV 0 0 0 0 0), .bool false]) ?_ rfl ⟨rfl, five_set' HB.out _ _ _ _ _⟩
    simp [results, Tryd.results17, go_sem, insV, z0, z1, z2, z3, z4]
  · rw [if_pos rfl]
    go_enter Tryd.func17, Tryd.ntmps17
    go_wp2_with (first
      | (go_at_call 32; refine (far_any _ _).mono ?_; rintro e w' ⟨rfl, rfl⟩; rw [hfar])
      | (go_at_call 34; refine (three_any _ _).mono ?_; rintro e w' ⟨rfl, rfl⟩; rw [hthree])
      | (go_at_call 35; refine (near_any _ _).mono ?_; rintro e w' ⟨rfl, rfl⟩; rw [hnear])
      | (go_at_call 33; refine Calls.mono (HR.out _) ?_; rintro e w' ⟨rfl, rfl⟩))
    refine Calls.mono (HRR.out _) ?_
    rintro e w1 ⟨rfl, hb⟩
    obtain ⟨hc1, hc2, hf1, hf2, hs⟩ := two_new hb
    have hs0 : w.heap.size < w1.heap.size := by omega
    have z0 := hc1 0 (.int .i64 0) rfl
    have z1 := hc1 1 (.int .i64 0) rfl
    have z2 := hc1 2 (.int .i64 0) rfl
    have z3 := hc1 3 (.int .i64 0) rfl
    have z4 := hc1 4 (.int .i64 0) rfl
    have y0 := hc2 0 (.int .i64 (x / 16777216)) rfl
    have y1 := hc2 1 (.int .i64 (x / 1048576 % 16)) rfl
    have y2 := hc2 2 (.int .i64 (x / 65536 % 16)) rfl
    have y3 := hc2 3 (.int .i64 0) rfl
    have y4 := hc2 4 (.int .i64 si) rfl
    have HB : Hid (Below w.heap.size w w1) := (((Below.refl _ _).alloc (Nat.le_refl _) _).alloc (by simp) _).trans (hb.mono (by simp; omega))
    clear hb hc1 hc2
    go_wp2
    refine bodyPost_ret (v := Value.tuple #[.agg (insV (x / 16777216) (x / 1048576 % 16) (x / 65536 % 16) 0 si), .bool true]) ?_ rfl ⟨rfl, five_set' HB.out _ _ _ _ _⟩
    simp [results, Tryd.results17, go_sem, insV, z0, z1, z2, z3, z4]
theorem rget_branch (x : Int) (w : World) (x0 : 0 ≤ x) (x1 : x < 4294967296) (hfar : farB (x / 16777216) = false) (hthree : threeB (x / 16777216) = false) (hnear : nearB (x / 16777216) = false) (hbranch : branchB (x / 16777216) = true) (hle : x % 65536 ≤ 255) :
    Calls Tryd.prog 17 #[.int .u32 x] w fun e w' => e = .returned (if rightB (x / 16777216) (x / 1048576 % 16) (x / 65536 % 16) 0 (signZ x 8) = true then .tuple #[.agg (insV (x / 16777216) (x / 1048576 % 16) (x / 65536 % 16) 0 (signZ x 8)), .bool true] else .tuple #[.agg (insV 0 0 0 0 0), .bool false]) ∧ Below w.heap.size w w' := by
  have HR : Hid (∀ wx, Calls Tryd.prog 33 #[.int .u32 x, .int .i64 8] wx fun e w' => e = .returned (.int .i64 (signZ x 8)) ∧ w' = wx) := fun wx => rsign_any x 8 wx x0 x1
  obtain ⟨g0, g1⟩ := sign_bd x 8
  generalize signZ x 8 = si at *
  have HRR : Hid (∀ wx, Calls Tryd.prog 37 #[.agg #[.int .i64 (x / 16777216), .int .i64 (x / 1048576 % 16), .int .i64 (x / 65536 % 16), .int .i64 0, .int .i64 si]] wx fun e w' => e = .returned (.bool (rightB (x / 16777216) (x / 1048576 % 16) (x / 65536 % 16) 0 si)) ∧ Below wx.heap.size wx w') := fun wx => rright_any _ _ _ _ _ wx
  generalize rightB (x / 16777216) (x / 1048576 % 16) (x / 65536 % 16) 0 si = q at *
  cases q
  · rw [if_neg (by decide)]
    go_enter Tryd.func17, Tryd.ntmps17
    go_wp2_with (first
      | (go_at_call 32; refine (far_any _ _).mono ?_; rintro e w' ⟨rfl, rfl⟩; rw [hfar])
      | (go_at_call 34; refine (three_any _ _).mono ?_; rintro e w' ⟨rfl, rfl⟩; rw [hthree])
      | (go_at_call 35; refine (near_any _ _).mono ?_; rintro e w' ⟨rfl, rfl⟩; rw [hnear])
      | (go_at_call 36; refine (branch_any _ _).mono ?_; rintro e w' ⟨rfl, rfl⟩; rw [hbranch])
      | (go_at_call 33; refine Calls.mono (HR.out _) ?_; rintro e w' ⟨rfl, rfl⟩))
    refine Calls.mono (HRR.out _) ?_
    rintro e w1 ⟨rfl, hb⟩
    obtain ⟨hc1, hc2, hf1, hf2, hs⟩ := two_new hb
    have hs0 : w.heap.size < w1.heap.size := by omega
    have z0 := hc1 0 (.int .i64 0) rfl
    have z1 := hc1 1 (.int .i64 0) rfl
    have z2 := hc1 2 (.int .i64 0) rfl
    have z3 := hc1 3 (.int .i64 0) rfl
    have z4 := hc1 4 (.int .i64 0) rfl
    have y0 := hc2 0 (.int .i64 (x / 16777216)) rfl
    have y1 := hc2 1 (.int .i64 (x / 1048576 % 16)) rfl
    have y2 := hc2 2 (.int .i64 (x / 65536 % 16)) rfl
    have y3 := hc2 3 (.int .i64 0) rfl
    have y4 := hc2 4 (.int .i64 si) rfl
    have HB : Hid (Below w.heap.size w w1) := (((Below.refl _ _).alloc (Nat.le_refl _) _).alloc (by simp) _).trans (hb.mono (by simp; omega))
    clear hb hc1 hc2
    go_wp2
    refine bodyPost_ret (v := Value.tuple #[.agg (insV 0 0 0 0 0), .bool false]) ?_ rfl ⟨rfl, five_set' HB.out _ _ _ _ _⟩
    simp [results, Tryd.results17, go_sem, insV, z0, z1, z2, z3, z4]
  · rw [if_pos rfl]
    go_enter Tryd.func17, Tryd.ntmps17
    go_wp2_with (first
      | (go_at_call 32; refine (far_any _ _).mono ?_; rintro e w' ⟨rfl, rfl⟩; rw [hfar])
      | (go_at_call 34; refine (three_any _ _).mono ?_; rintro e w' ⟨rfl, rfl⟩; rw [hthree])
      | (go_at_call 35; refine (near_any _ _).mono ?_; rintro e w' ⟨rfl, rfl⟩; rw [hnear])
      | (go_at_call 36; refine (branch_any _ _).mono ?_; rintro e w' ⟨rfl, rfl⟩; rw [hbranch])
      | (go_at_call 33; refine Calls.mono (HR.out _) ?_; rintro e w' ⟨rfl, rfl⟩))
    refine Calls.mono (HRR.out _) ?_
    rintro e w1 ⟨rfl, hb⟩
    obtain ⟨hc1, hc2, hf1, hf2, hs⟩ := two_new hb
    have hs0 : w.heap.size < w1.heap.size := by omega
    have z0 := hc1 0 (.int .i64 0) rfl
    have z1 := hc1 1 (.int .i64 0) rfl
    have z2 := hc1 2 (.int .i64 0) rfl
    have z3 := hc1 3 (.int .i64 0) rfl
    have z4 := hc1 4 (.int .i64 0) rfl
    have y0 := hc2 0 (.int .i64 (x / 16777216)) rfl
    have y1 := hc2 1 (.int .i64 (x / 1048576 % 16)) rfl
    have y2 := hc2 2 (.int .i64 (x / 65536 % 16)) rfl
    have y3 := hc2 3 (.int .i64 0) rfl
    have y4 := hc2 4 (.int .i64 si) rfl
    have HB : Hid (Below w.heap.size w w1) := (((Below.refl _ _).alloc (Nat.le_refl _) _).alloc (by simp) _).trans (hb.mono (by simp; omega))
    clear hb hc1 hc2
    go_wp2
    refine bodyPost_ret (v := Value.tuple #[.agg (insV (x / 16777216) (x / 1048576 % 16) (x / 65536 % 16) 0 si), .bool true]) ?_ rfl ⟨rfl, five_set' HB.out _ _ _ _ _⟩
    simp [results, Tryd.results17, go_sem, insV, z0, z1, z2, z3, z4]
theorem rget_far (x : Int) (w : World) (x0 : 0 ≤ x) (x1 : x < 4294967296) (hfar : farB (x / 16777216) = true) (hthree : threeB (x / 16777216) = false) (hnear : nearB (x / 16777216) = false) (hbranch : branchB (x / 16777216) = false) :
    Calls Tryd.prog 17 #[.int .u32 x] w fun e w' => e = .returned (if rightB (x / 16777216) 0 0 0 (signZ x 24) = true then .tuple #[.agg (insV (x / 16777216) 0 0 0 (signZ x 24)), .bool true] else .tuple #[.agg (insV 0 0 0 0 0), .bool false]) ∧ Below w.heap.size w w' := by
  have HR : Hid (∀ wx, Calls Tryd.prog 33 #[.int .u32 x, .int .i64 24] wx fun e w' => e = .returned (.int .i64 (signZ x 24)) ∧ w' = wx) := fun wx => rsign_any x 24 wx x0 x1
  obtain ⟨g0, g1⟩ := sign_bd x 24
  generalize signZ x 24 = si at *
  have HRR : Hid (∀ wx, Calls Tryd.prog 37 #[.agg #[.int .i64 (x / 16777216), .int .i64 0, .int .i64 0, .int .i64 0, .int .i64 si]] wx fun e w' => e = .returned (.bool (rightB (x / 16777216) 0 0 0 si)) ∧ Below wx.heap.size wx w') := fun wx => rright_any _ _ _ _ _ wx
  generalize rightB (x / 16777216) 0 0 0 si = q at *
  cases q
  · rw [if_neg (by decide)]
    go_enter Tryd.func17, Tryd.ntmps17
    go_wp2_with (first
      | (go_at_call 32; refine (far_any _ _).mono ?_; rintro e w' ⟨rfl, rfl⟩; rw [hfar])
      | (go_at_call 34; refine (three_any _ _).mono ?_; rintro e w' ⟨rfl, rfl⟩; rw [hthree])
      | (go_at_call 35; refine (near_any _ _).mono ?_; rintro e w' ⟨rfl, rfl⟩; rw [hnear])
      | (go_at_call 36; refine (branch_any _ _).mono ?_; rintro e w' ⟨rfl, rfl⟩; rw [hbranch])
      | (go_at_call 33; refine Calls.mono (HR.out _) ?_; rintro e w' ⟨rfl, rfl⟩))
    refine Calls.mono (HRR.out _) ?_
    rintro e w1 ⟨rfl, hb⟩
    obtain ⟨hc1, hc2, hf1, hf2, hs⟩ := two_new hb
    have hs0 : w.heap.size < w1.heap.size := by omega
    have z0 := hc1 0 (.int .i64 0) rfl
    have z1 := hc1 1 (.int .i64 0) rfl
    have z2 := hc1 2 (.int .i64 0) rfl
    have z3 := hc1 3 (.int .i64 0) rfl
    have z4 := hc1 4 (.int .i64 0) rfl
    have y0 := hc2 0 (.int .i64 (x / 16777216)) rfl
    have y1 := hc2 1 (.int .i64 0) rfl
    have y2 := hc2 2 (.int .i64 0) rfl
    have y3 := hc2 3 (.int .i64 0) rfl
    have y4 := hc2 4 (.int .i64 si) rfl
    have HB : Hid (Below w.heap.size w w1) := (((Below.refl _ _).alloc (Nat.le_refl _) _).alloc (by simp) _).trans (hb.mono (by simp; omega))
    clear hb hc1 hc2
    go_wp2
    refine bodyPost_ret (v := Value.tuple #[.agg (insV 0 0 0 0 0), .bool false]) ?_ rfl ⟨rfl, five_set' HB.out _ _ _ _ _⟩
    simp [results, Tryd.results17, go_sem, insV, z0, z1, z2, z3, z4]
  · rw [if_pos rfl]
    go_enter Tryd.func17, Tryd.ntmps17
    go_wp2_with (first
      | (go_at_call 32; refine (far_any _ _).mono ?_; rintro e w' ⟨rfl, rfl⟩; rw [hfar])
      | (go_at_call 34; refine (three_any _ _).mono ?_; rintro e w' ⟨rfl, rfl⟩; rw [hthree])
      | (go_at_call 35; refine (near_any _ _).mono ?_; rintro e w' ⟨rfl, rfl⟩; rw [hnear])
      | (go_at_call 36; refine (branch_any _ _).mono ?_; rintro e w' ⟨rfl, rfl⟩; rw [hbranch])
      | (go_at_call 33; refine Calls.mono (HR.out _) ?_; rintro e w' ⟨rfl, rfl⟩))
    refine Calls.mono (HRR.out _) ?_
    rintro e w1 ⟨rfl, hb⟩
    obtain ⟨hc1, hc2, hf1, hf2, hs⟩ := two_new hb
    have hs0 : w.heap.size < w1.heap.size := by omega
    have z0 := hc1 0 (.int .i64 0) rfl
    have z1 := hc1 1 (.int .i64 0) rfl
    have z2 := hc1 2 (.int .i64 0) rfl
    have z3 := hc1 3 (.int .i64 0) rfl
    have z4 := hc1 4 (.int .i64 0) rfl
    have y0 := hc2 0 (.int .i64 (x / 16777216)) rfl
    have y1 := hc2 1 (.int .i64 0) rfl
    have y2 := hc2 2 (.int .i64 0) rfl
    have y3 := hc2 3 (.int .i64 0) rfl
    have y4 := hc2 4 (.int .i64 si) rfl
    have HB : Hid (Below w.heap.size w w1) := (((Below.refl _ _).alloc (Nat.le_refl _) _).alloc (by simp) _).trans (hb.mono (by simp; omega))
    clear hb hc1 hc2
    go_wp2
    refine bodyPost_ret (v := Value.tuple #[.agg (insV (x / 16777216) 0 0 0 si), .bool true]) ?_ rfl ⟨rfl, five_set' HB.out _ _ _ _ _⟩
    simp [results, Tryd.results17, go_sem, insV, z0, z1, z2, z3, z4]
theorem rget_other (x : Int) (w : World) (x0 : 0 ≤ x) (x1 : x < 4294967296) (hfar : farB (x / 16777216) = false) (hthree : threeB (x / 16777216) = false) (hnear : nearB (x / 16777216) = false) (hbranch : branchB (x / 16777216) = false) :
    Calls Tryd.prog 17 #[.int .u32 x] w fun e w' => e = .returned (if rightB (x / 16777216) (x / 1048576 % 16) (x / 65536 % 16) 0 (x % 65536) = true then .tuple #[.agg (insV (x / 16777216) (x / 1048576 % 16) (x / 65536 % 16) 0 (x % 65536)), .bool true] else .tuple #[.agg (insV 0 0 0 0 0), .bool false]) ∧ Below w.heap.size w w' := by
  have HRR : Hid (∀ wx, Calls Tryd.prog 37 #[.agg #[.int .i64 (x / 16777216), .int .i64 (x / 1048576 % 16), .int .i64 (x / 65536 % 16), .int .i64 0, .int .i64 (x % 65536)]] wx fun e w' => e = .returned (.bool (rightB (x / 16777216) (x / 1048576 % 16) (x / 65536 % 16) 0 (x % 65536))) ∧ Below wx.heap.size wx w') := fun wx => rright_any _ _ _ _ _ wx
  generalize rightB (x / 16777216) (x / 1048576 % 16) (x / 65536 % 16) 0 (x % 65536) = q at *
  cases q
  · rw [if_neg (by decide)]
    go_enter Tryd.func17, Tryd.ntmps17
    go_wp2_with (first
      | (go_at_call 32; refine (far_any _ _).mono ?_; rintro e w' ⟨rfl, rfl⟩; rw [hfar])
      | (go_at_call 34; refine (three_any _ _).mono ?_; rintro e w' ⟨rfl, rfl⟩; rw [hthree])
      | (go_at_call 35; refine (near_any _ _).mono ?_; rintro e w' ⟨rfl, rfl⟩; rw [hnear])
      | (go_at_call 36; refine (branch_any _ _).mono ?_; rintro e w' ⟨rfl, rfl⟩; rw [hbranch]))
    refine Calls.mono (HRR.out _) ?_
    rintro e w1 ⟨rfl, hb⟩
    obtain ⟨hc1, hc2, hf1, hf2, hs⟩ := two_new hb
    have hs0 : w.heap.size < w1.heap.size := by omega
    have z0 := hc1 0 (.int .i64 0) rfl
    have z1 := hc1 1 (.int .i64 0) rfl
    have z2 := hc1 2 (.int .i64 0) rfl
    have z3 := hc1 3 (.int .i64 0) rfl
    have z4 := hc1 4 (.int .i64 0) rfl
    have y0 := hc2 0 (.int .i64 (x / 16777216)) rfl
    have y1 := hc2 1 (.int .i64 (x / 1048576 % 16)) rfl
    have y2 := hc2 2 (.int .i64 (x / 65536 % 16)) rfl
    have y3 := hc2 3 (.int .i64 0) rfl
    have y4 := hc2 4 (.int .i64 (x % 65536)) rfl
    have HB : Hid (Below w.heap.size w w1) := (((Below.refl _ _).alloc (Nat.le_refl _) _).alloc (by simp) _).trans (hb.mono (by simp; omega))
    clear hb hc1 hc2
    go_wp2
    refine bodyPost_ret (v := Value.tuple #[.agg (insV 0 0 0 0 0), .bool false]) ?_ rfl ⟨rfl, five_set' HB.out _ _ _ _ _⟩
    simp [results, Tryd.results17, go_sem, insV, z0, z1, z2, z3, z4]
  · rw [if_pos rfl]
    go_enter Tryd.func17, Tryd.ntmps17
    go_wp2_with (first
      | (go_at_call 32; refine (far_any _ _).mono ?_; rintro e w' ⟨rfl, rfl⟩; rw [hfar])
      | (go_at_call 34; refine (three_any _ _).mono ?_; rintro e w' ⟨rfl, rfl⟩; rw [hthree])
      | (go_at_call 35; refine (near_any _ _).mono ?_; rintro e w' ⟨rfl, rfl⟩; rw [hnear])
      | (go_at_call 36; refine (branch_any _ _).mono ?_; rintro e w' ⟨rfl, rfl⟩; rw [hbranch]))
    refine Calls.mono (HRR.out _) ?_
    rintro e w1 ⟨rfl, hb⟩
    obtain ⟨hc1, hc2, hf1, hf2, hs⟩ := two_new hb
    have hs0 : w.heap.size < w1.heap.size := by omega
    have z0 := hc1 0 (.int .i64 0) rfl
    have z1 := hc1 1 (.int .i64 0) rfl
    have z2 := hc1 2 (.int .i64 0) rfl
    have z3 := hc1 3 (.int .i64 0) rfl
    have z4 := hc1 4 (.int .i64 0) rfl
    have y0 := hc2 0 (.int .i64 (x / 16777216)) rfl
    have y1 := hc2 1 (.int .i64 (x / 1048576 % 16)) rfl
    have y2 := hc2 2 (.int .i64 (x / 65536 % 16)) rfl
    have y3 := hc2 3 (.int .i64 0) rfl
    have y4 := hc2 4 (.int .i64 (x % 65536)) rfl
    have HB : Hid (Below w.heap.size w w1) := (((Below.refl _ _).alloc (Nat.le_refl _) _).alloc (by simp) _).trans (hb.mono (by simp; omega))
    clear hb hc1 hc2
    go_wp2
    refine bodyPost_ret (v := Value.tuple #[.agg (insV (x / 16777216) (x / 1048576 % 16) (x / 65536 % 16) 0 (x % 65536)), .bool true]) ?_ rfl ⟨rfl, five_set' HB.out _ _ _ _ _⟩
    simp [results, Tryd.results17, go_sem, insV, z0, z1, z2, z3, z4]
end Go.Proofs.YtombfnnpdamlgaaDoor
