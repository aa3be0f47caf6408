/- What the code's functions on states and instructions return, by the operation; what fetch returns. -/
import Derived.Test.YtnpejnjigaalfaaDoorCpuD
import Derived.Test.YtnpejnjigaalfaaDoorCpuE
import Derived.Test.YtnpejnjigaalfaaDoorCodeMore
namespace Go.Proofs.YtnpejnjigaalfaaDoor
open Go.ChangeShapes Go.WideShapes Go.ChangeAt Go.RowKit
set_option linter.unusedVariables false
set_option linter.unusedSimpArgs false
/-- A right instruction's numbers are in their ranges. -/
theorem ins_bd (op a b c i : Int) (h : rightB op a b c i = true) : (0 ≤ op ∧ op < 26) ∧ (0 ≤ a ∧ a < 16) ∧ (0 ≤ b ∧ b < 16) ∧ (0 ≤ c ∧ c < 16) ∧ (-8388608 ≤ i ∧ i ≤ 8388607) ∧ (8 ≤ op ∧ op ≤ 10 → -32768 ≤ i ∧ i ≤ 65535) ∧ (op = 10 → 0 ≤ i) := by
  have hr := right_regs op a b c i h
  have ho : 0 ≤ op ∧ op < 26 := by
    simp only [rightB, Bool.and_eq_true, decide_eq_true_eq] at h
    exact h.1.1.1.1
  have hi : (-8388608 ≤ i ∧ i ≤ 8388607) ∧ (8 ≤ op ∧ op ≤ 10 → -32768 ≤ i ∧ i ≤ 65535) ∧ (op = 10 → 0 ≤ i) := by
    rcases (by omega : (1 ≤ op ∧ op ≤ 7) ∨ (op = 8 ∨ 11 ≤ op ∧ op ≤ 14) ∨ op = 10 ∨ (15 ≤ op ∧ op ≤ 18) ∨ op = 9 ∨ (op = 0 ∨ op = 22 ∨ op = 23) ∨ (op = 19 ∨ op = 20) ∨ (op = 21 ∨ op = 24 ∨ op = 25)) with e | e | rfl | e | rfl | e | e | e
    · rw [right_three _ _ _ _ _ e, decide_eq_true_eq] at h; omega
    · rw [right_near _ _ _ _ _ e, decide_eq_true_eq] at h; omega
    · rw [right_ori, decide_eq_true_eq] at h; omega
    · rw [right_branch _ _ _ _ _ e, decide_eq_true_eq] at h; omega
    · rw [right_high, decide_eq_true_eq] at h; omega
    · rw [right_one _ _ _ _ _ e, decide_eq_true_eq] at h; omega
    · rw [right_far _ _ _ _ _ e, decide_eq_true_eq] at h; omega
    · rw [right_no _ _ _ _ _ e, decide_eq_true_eq] at h; omega
  exact ⟨ho, ⟨hr.1, hr.2.1⟩, ⟨hr.2.2.1, hr.2.2.2.1⟩, ⟨hr.2.2.2.2.1, hr.2.2.2.2.2⟩, hi⟩
theorem load_op {w : World} {C : Array Value} {s : St} (h : IsSt w (.agg C) s) (hs : Small s) (op : Int) (a b : Nat) (c imm : Int) (ha : a < 16) (hb : b < 16) (hi : -1073741824 ≤ imm ∧ imm ≤ 1073741824) (ho : op = 11 ∨ op = 13) :
    Calls Tryd.prog 52 #[.agg C, .agg (#[.int .i64 op, .int .i64 a, .int .i64 b, .int .i64 c, .int .i64 imm])] w (StPost w C (opZ op a b c imm s)) := by
  rcases ho with rfl | rfl
  · cases hk : okB s.mn (whereZ s b imm) true
    · exact (loadw_st_no h hs a b c imm ha hb hi hk).mono fun e w' hp => hp.eq (by simp [opZ, hk])
    · exact (loadw_st_yes h hs a b c imm ha hb hi hk).mono fun e w' hp => hp.eq (by simp [opZ, hk])
  · cases hk : okB s.mn (whereZ s b imm) false
    · exact (loadb_st_no h hs a b c imm ha hb hi hk).mono fun e w' hp => hp.eq (by simp [opZ, hk])
    · exact (loadb_st_yes h hs a b c imm ha hb hi hk).mono fun e w' hp => hp.eq (by simp [opZ, hk])
theorem save_op {w : World} {C : Array Value} {s : St} (h : IsSt w (.agg C) s) (hs : Small s) (op : Int) (a b : Nat) (c imm : Int) (ha : a < 16) (hb : b < 16) (hi : -1073741824 ≤ imm ∧ imm ≤ 1073741824) (ho : op = 12 ∨ op = 14) :
    Calls Tryd.prog 53 #[.agg C, .agg (#[.int .i64 op, .int .i64 a, .int .i64 b, .int .i64 c, .int .i64 imm])] w (StPost w C (opZ op a b c imm s)) := by
  rcases ho with rfl | rfl
  · cases hk : saveB s.mn (whereZ s b imm) true s.wt
    · exact (savew_no h hs a b c imm ha hb hi hk).mono fun e w' hp => hp.eq (by simp [opZ, hk])
    · exact (savew_yes h hs a b c imm ha hb hi hk).mono fun e w' hp => hp.eq (by simp [opZ, hk])
  · cases hk : saveB s.mn (whereZ s b imm) false s.wt
    · exact (saveb_no h hs a b c imm ha hb hi hk).mono fun e w' hp => hp.eq (by simp [opZ, hk])
    · exact (saveb_yes h hs a b c imm ha hb hi hk).mono fun e w' hp => hp.eq (by simp [opZ, hk])
theorem in_op {w : World} {C : Array Value} {s : St} (h : IsSt w (.agg C) s) (hs : Small s) (op : Int) (a : Nat) (b c imm : Int) (ha : a < 16) (ho : op = 22) :
    Calls Tryd.prog 54 #[.agg C, .agg (#[.int .i64 op, .int .i64 a, .int .i64 b, .int .i64 c, .int .i64 imm])] w (StPost w C (opZ op a b c imm s)) := by
  subst ho
  rcases hn : s.inn with _ | n
  · exact (in_none h hs a b c imm ha hn).mono fun e w' hp => hp.eq (by simp [opZ, hn])
  · exact (in_some h hs a b c imm ha n hn).mono fun e w' hp => hp.eq (by simp [opZ, hn])
theorem out_op {w : World} {C : Array Value} {s : St} (h : IsSt w (.agg C) s) (hs : Small s) (op : Int) (a : Nat) (b c imm : Int) (ha : a < 16) (ho : op = 23) :
    Calls Tryd.prog 55 #[.agg C, .agg (#[.int .i64 op, .int .i64 a, .int .i64 b, .int .i64 c, .int .i64 imm])] w (StPost w C (opZ op a b c imm s)) := by
  subst ho
  by_cases hn : s.on_ < 4096
  · exact (out_room h hs 23 a b c imm ha hn).mono fun e w' hp => hp.eq (by simp [opZ, hn])
  · exact (out_full h hs 23 a b c imm ha hn).mono fun e w' hp => hp.eq (by simp [opZ, hn])
theorem branch_op {w : World} {C : Array Value} {s : St} (h : IsSt w (.agg C) s) (hs : Small s) (op : Int) (a b : Nat) (c imm : Int) (ha : a < 16) (hb : b < 16) (hi : -1073741824 ≤ imm ∧ imm ≤ 1073741824) (ho : 15 ≤ op ∧ op ≤ 18) :
    Calls Tryd.prog 56 #[.agg C, .agg (#[.int .i64 op, .int .i64 a, .int .i64 b, .int .i64 c, .int .i64 imm])] w (StPost w C (opZ op a b c imm s)) := by
  refine (branch_st h hs.2.1 hs.1.2 op a b c imm ha hb hi).mono fun e w' hp => hp.eq ?_
  rcases (by omega : op = 15 ∨ op = 16 ∨ op = 17 ∨ op = 18) with rfl | rfl | rfl | rfl <;> simp [opZ]
theorem call_op {w : World} {C : Array Value} {s : St} (h : IsSt w (.agg C) s) (hs : Small s) (op a b c imm : Int) (hi : -1073741824 ≤ imm ∧ imm ≤ 1073741824) (ho : op = 20) :
    Calls Tryd.prog 58 #[.agg C, .agg (#[.int .i64 op, .int .i64 a, .int .i64 b, .int .i64 c, .int .i64 imm])] w (StPost w C (opZ op a b c imm s)) := by
  subst ho
  exact (call_st h hs.2.1 (by have := hs.2.2.1.1; omega) 20 a b c imm hi).mono fun e w' hp => hp.eq (by simp [opZ])
theorem halt_op {w : World} {C : Array Value} {s : St} (h : IsSt w (.agg C) s) (op : Int) (a : Nat) (b c imm : Int) (ha : a < 16) (ho : op = 0) :
    Calls Tryd.prog 60 #[.agg C, .agg (#[.int .i64 op, .int .i64 a, .int .i64 b, .int .i64 c, .int .i64 imm])] w (StPost w C (opZ op a b c imm s)) := by
  subst ho
  exact (halt_st h 0 a b c imm ha).mono fun e w' hp => hp.eq (by simp [opZ])
theorem ret_op {w : World} {C : Array Value} {s : St} (h : IsSt w (.agg C) s) (hs : Small s) (op a b c imm : Int) (ho : op = 21) :
    Calls Tryd.prog 59 #[.agg C] w (StPost w C (opZ op a b c imm s)) := by
  subst ho
  rcases hn : s.bn with _ | n
  · exact (ret_none h hn).mono fun e w' hp => hp.eq (by simp [opZ, hn])
  · exact (ret_some h n hn (by have := hs.2.2.1.1; omega)).mono fun e w' hp => hp.eq (by simp [opZ, hn])
theorem jump_op {w : World} {C : Array Value} {s : St} (h : IsSt w (.agg C) s) (hs : Small s) (op a b c imm : Int) (hi : -1073741824 ≤ imm ∧ imm ≤ 1073741824) (ho : op = 19) :
    Calls Tryd.prog 57 #[.agg C, .int .i64 imm] w (StPost w C (opZ op a b c imm s)) := by
  subst ho
  exact (lead_st h hs.2.1 imm hi).mono fun e w' hp => hp.eq (by simp [opZ])
theorem trap_op {w : World} {C : Array Value} {s : St} (h : IsSt w (.agg C) s) (op a b c imm : Int) (ho : op = 25) :
    Calls Tryd.prog 51 #[.agg C, .int .i64 1] w (StPost w C (opZ op a b c imm s)) := by
  subst ho
  exact (fault_st h 1).mono fun e w' hp => hp.eq (by simp [opZ])
theorem write_op {w : World} {C : Array Value} {s : St} (h : IsSt w (.agg C) s) (hs : Small s) (op : Int) (a b c : Nat) (imm x : Int) (ha : a < 16) (ho : 1 ≤ op ∧ op ≤ 10 ∨ op = 24) (hx : op ≠ 24 → x = doZ op imm (s.r b).toNat (s.r c).toNat) :
    Calls Tryd.prog 61 #[.agg C, .agg (#[.int .i64 op, .int .i64 a, .int .i64 b, .int .i64 c, .int .i64 imm]), .int .u32 x] w (StPost w C (opZ op a b c imm s)) := by
  rcases ho with ho | rfl
  · obtain rfl := hx (by omega)
    refine (write_set h hs.2.1 hs.1.1 op a b c imm _ (by omega) (by omega) ha (by omega)).mono fun e w' hp => hp.eq ?_
    rcases (by omega : op = 1 ∨ op = 2 ∨ op = 3 ∨ op = 4 ∨ op = 5 ∨ op = 6 ∨ op = 7 ∨ op = 8 ∨ op = 9 ∨ op = 10) with rfl | rfl | rfl | rfl | rfl | rfl | rfl | rfl | rfl | rfl <;> simp [opZ]
  · exact (write_no h hs.2.1 24 a b c imm x (by omega) (by omega) (by unfold writesZ; rw [if_neg (by omega)])).mono fun e w' hp => hp.eq (by simp [opZ])
set_option maxHeartbeats 2000000 in
set_option maxRecDepth 100000 in
theorem fetch_out (w : World) (a : Option Addr) (n c : Nat) (p : Nat) (hn : n ≤ 1000) (h1 : n ≤ p) :
    Calls Tryd.prog 50 #[.slice a n c, .int .i64 p] w fun e w' => e = .returned (.tuple #[.agg (insV 0 0 0 0 0), .bool false]) ∧ Below w.heap.size w w' := by
  have q1 : decide ((p : Int) < 0) = false := by simp
  have q2 : decide (n ≤ p) = true := by simp [h1]
  go_enter Tryd.func50, Tryd.ntmps50
  go_wp2
  refine bodyPost_ret (v := Value.tuple #[.agg (insV 0 0 0 0 0), .bool false]) ?_ rfl ⟨rfl, (Below.refl _ _).alloc (Nat.le_refl _) _⟩
  simp [results, Tryd.results50, go_sem, insV]
set_option maxHeartbeats 2000000 in
set_option maxRecDepth 100000 in
theorem fetch_ok (w : World) (a : Option Addr) (n c : Nat) (f : Nat → Int) (i : Nat) (x O A B K I : Int) (hn : n ≤ 1000) (hw : RowK .u32 w a n f) (hi : i < n) (hx : f i = x)
    (hG : ∀ W, Below w.heap.size w W → Calls Tryd.prog 63 #[.int .u32 x] W fun e w' => e = .returned (.tuple #[.agg #[.int .i64 O, .int .i64 A, .int .i64 B, .int .i64 K, .int .i64 I], .int .i64 0]) ∧ Below W.heap.size W w') :
    Calls Tryd.prog 50 #[.slice a n c, .int .i64 i] w fun e w' => e = .returned (.tuple #[.agg (insV O A B K I), .bool true]) ∧ Below w.heap.size w w' := by
  obtain ⟨-, rfl | ⟨b, off, rfl, hc⟩⟩ := hw
  · omega
  have xi := hc i hi
  rw [hx] at xi
  have b0 : Below w.heap.size w (w.alloc (.cells #[.int .i64 0, .int .i64 0, .int .i64 0, .int .i64 0, .int .i64 0] 54)) := (Below.refl _ _).alloc (Nat.le_refl _) _
  have xj := cell_later' xi b0
  have HG : Hid (∀ W, Below (w.alloc (.cells #[.int .i64 0, .int .i64 0, .int .i64 0, .int .i64 0, .int .i64 0] 54)).heap.size (w.alloc (.cells #[.int .i64 0, .int .i64 0, .int .i64 0, .int .i64 0, .int .i64 0] 54)) W → Calls Tryd.prog 63 #[.int .u32 x] W fun e w' => e = .returned (.tuple #[.agg #[.int .i64 O, .int .i64 A, .int .i64 B, .int .i64 K, .int .i64 I], .int .i64 0]) ∧ Below W.heap.size W w') := fun W hW => hG W (bnext b0 hW)
  have q1 : decide ((i : Int) < 0) = false := by simp
  have q2 : decide (n ≤ i) = false := by simp [hi]
  clear hG hc hx xi b0
  go_enter Tryd.func50, Tryd.ntmps50
  go_upto_region 4 with (go_at_call 63; refine (HG.out _ (Below.refl _ _)).mono ?_; rintro e w1 ⟨rfl, hb1⟩; have HB1 : Hid (Below (w.alloc (.cells #[.int .i64 0, .int .i64 0, .int .i64 0, .int .i64 0, .int .i64 0] 54)).heap.size (w.alloc (.cells #[.int .i64 0, .int .i64 0, .int .i64 0, .int .i64 0, .int .i64 0] 54)) w1) := hb1)
  obtain ⟨hc1, hc2, hf, hs1, hs2, hB⟩ := get_cells (c2 := #[.int .i64 O, .int .i64 A, .int .i64 B, .int .i64 K, .int .i64 I]) (t2 := 54) HB1.out (Below.refl _ _)
  have z0 := hc1 0 (.int .i64 0) rfl
  have z1 := hc1 1 (.int .i64 0) rfl
  have z2 := hc1 2 (.int .i64 0) rfl
  have z3 := hc1 3 (.int .i64 0) rfl
  have z4 := hc1 4 (.int .i64 0) rfl
  have y0 := hc2 0 (.int .i64 O) rfl
  have y1 := hc2 1 (.int .i64 A) rfl
  have y2 := hc2 2 (.int .i64 B) rfl
  have y3 := hc2 3 (.int .i64 K) rfl
  have y4 := hc2 4 (.int .i64 I) rfl
  have HBB : Hid (Below w.heap.size w (w1.alloc (.cells #[.int .i64 O, .int .i64 A, .int .i64 B, .int .i64 K, .int .i64 I] 54))) := hB
  clear hc1 hc2 hb1 hB xj HB1 HG
  generalize w1.alloc (.cells #[.int .i64 O, .int .i64 A, .int .i64 B, .int .i64 K, .int .i64 I] 54) = w2 at *
  go_wp2
  refine bodyPost_ret (v := Value.tuple #[.agg (insV O A B K I), .bool true]) ?_ rfl ⟨rfl, five_set' HBB.out _ _ _ _ _⟩
  simp [results, Tryd.results50, go_sem, insV, z0, z1, z2, z3, z4]
set_option maxHeartbeats 2000000 in
set_option maxRecDepth 100000 in
theorem fetch_bad (w : World) (a : Option Addr) (n c : Nat) (f : Nat → Int) (i : Nat) (x O A B K I : Int) (hn : n ≤ 1000) (hw : RowK .u32 w a n f) (hi : i < n) (hx : f i = x)
    (hG : ∀ W, Below w.heap.size w W → Calls Tryd.prog 63 #[.int .u32 x] W fun e w' => e = .returned (.tuple #[.agg #[.int .i64 O, .int .i64 A, .int .i64 B, .int .i64 K, .int .i64 I], .int .i64 3]) ∧ Below W.heap.size W w') :
    Calls Tryd.prog 50 #[.slice a n c, .int .i64 i] w fun e w' => e = .returned (.tuple #[.agg (insV O A B K I), .bool false]) ∧ Below w.heap.size w w' := by
  obtain ⟨-, rfl | ⟨b, off, rfl, hc⟩⟩ := hw
  · omega
  have xi := hc i hi
  rw [hx] at xi
  have b0 : Below w.heap.size w (w.alloc (.cells #[.int .i64 0, .int .i64 0, .int .i64 0, .int .i64 0, .int .i64 0] 54)) := (Below.refl _ _).alloc (Nat.le_refl _) _
  have xj := cell_later' xi b0
  have HG : Hid (∀ W, Below (w.alloc (.cells #[.int .i64 0, .int .i64 0, .int .i64 0, .int .i64 0, .int .i64 0] 54)).heap.size (w.alloc (.cells #[.int .i64 0, .int .i64 0, .int .i64 0, .int .i64 0, .int .i64 0] 54)) W → Calls Tryd.prog 63 #[.int .u32 x] W fun e w' => e = .returned (.tuple #[.agg #[.int .i64 O, .int .i64 A, .int .i64 B, .int .i64 K, .int .i64 I], .int .i64 3]) ∧ Below W.heap.size W w') := fun W hW => hG W (bnext b0 hW)
  have q1 : decide ((i : Int) < 0) = false := by simp
  have q2 : decide (n ≤ i) = false := by simp [hi]
  clear hG hc hx xi b0
  go_enter Tryd.func50, Tryd.ntmps50
  go_upto_region 4 with (go_at_call 63; refine (HG.out _ (Below.refl _ _)).mono ?_; rintro e w1 ⟨rfl, hb1⟩; have HB1 : Hid (Below (w.alloc (.cells #[.int .i64 0, .int .i64 0, .int .i64 0, .int .i64 0, .int .i64 0] 54)).heap.size (w.alloc (.cells #[.int .i64 0, .int .i64 0, .int .i64 0, .int .i64 0, .int .i64 0] 54)) w1) := hb1)
  obtain ⟨hc1, hc2, hf, hs1, hs2, hB⟩ := get_cells (c2 := #[.int .i64 O, .int .i64 A, .int .i64 B, .int .i64 K, .int .i64 I]) (t2 := 54) HB1.out (Below.refl _ _)
  have z0 := hc1 0 (.int .i64 0) rfl
  have z1 := hc1 1 (.int .i64 0) rfl
  have z2 := hc1 2 (.int .i64 0) rfl
  have z3 := hc1 3 (.int .i64 0) rfl
  have z4 := hc1 4 (.int .i64 0) rfl
  have y0 := hc2 0 (.int .i64 O) rfl
  have y1 := hc2 1 (.int .i64 A) rfl
  have y2 := hc2 2 (.int .i64 B) rfl
  have y3 := hc2 3 (.int .i64 K) rfl
  have y4 := hc2 4 (.int .i64 I) rfl
  have HBB : Hid (Below w.heap.size w (w1.alloc (.cells #[.int .i64 O, .int .i64 A, .int .i64 B, .int .i64 K, .int .i64 I] 54))) := hB
  clear hc1 hc2 hb1 hB xj HB1 HG
  generalize w1.alloc (.cells #[.int .i64 O, .int .i64 A, .int .i64 B, .int .i64 K, .int .i64 I] 54) = w2 at *
  go_wp2
  refine bodyPost_ret (v := Value.tuple #[.agg (insV O A B K I), .bool false]) ?_ rfl ⟨rfl, five_set' HBB.out _ _ _ _ _⟩
  simp [results, Tryd.results50, go_sem, insV, z0, z1, z2, z3, z4]
end Go.Proofs.YtnpejnjigaalfaaDoor
