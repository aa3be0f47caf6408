/- What the code takes of bytes: numbers, flags, relocations, notes. -/
import Derived.Test.YtcbhnpjaaaefiaaObjRt0
import Derived.Test.YtcbhnpjaaaefiaaObjSpec
namespace Go.Proofs.Ytcbhnpjaaaefiaa
open Go.ChangeShapes Go.WideShapes Go.ChangeAt Go.RowKit
set_option linter.unusedVariables false
set_option linter.unusedSimpArgs false
def bindT : Rdr Int := bindR (numR 1) fun b => bindR (mustR (bindB b)) fun _ => pureR b
def flagT : Rdr Bool := bindR (numR 1) fun x => bindR (mustR (decide (x ≤ 1))) fun _ => pureR (decide (x = 1))
def addB (x : Int) : Bool := decide (-1048576 ≤ x ∧ x ≤ 1048576)
def addT : Rdr Int := bindR (numR 4) fun d => bindR (mustR (addB (d - 2147483648))) fun _ => pureR (d - 2147483648)
theorem keeps_bindT : Keeps bindT := keeps_bind (keeps_num _) fun _ => keeps_bind (keeps_must _) fun _ => keeps_pure _
theorem keeps_flagT : Keeps flagT := keeps_bind (keeps_num _) fun _ => keeps_bind (keeps_must _) fun _ => keeps_pure _
theorem keeps_addT : Keeps addT := keeps_bind (keeps_num _) fun _ => keeps_bind (keeps_must _) fun _ => keeps_pure _
theorem relR_T : relR = bindR (numR 2) fun a => bindR (numR 1) fun k => bindR nameR fun t => bindR addT fun d => pureR ⟨a, k, t, d⟩ := rfl
theorem noteR_T : noteR = bindR nameR fun t => bindR (numR 1) fun k => pureR ⟨t, k⟩ := rfl
theorem funcR_T : funcR = bindR nameR fun t => bindR bindT fun b => bindR (listR 2000 (numR 4)) fun c => bindR (listR 64 relR) fun l => pureR ⟨t, b, c, l⟩ := rfl
theorem dataR_T : dataR = bindR nameR fun t => bindR bindT fun b => bindR (numR 1) fun a => bindR flagT fun x => bindR (numR 2) fun z => bindR (bytesR 4096) fun c => bindR (listR 64 relR) fun l => pureR ⟨t, b, a, x, z, c, l⟩ := rfl
section
variable {O : Nat → Prop} {w : World} {v : Value} {b : Bs}
theorem sk_numb (h : Sk O w v b) (k : Nat) (k4 : k ≤ 4) :
    Calls Try.prog 96 #[v, .int .i64 k] w (Took O w v (numR k (.good b)) fun x _ u => u = .int .i64 x ∧ 0 ≤ x ∧ x < 256 ^ k) := by
  refine (sk_num h k k4).mono ?_
  rintro e w' ⟨⟨x, b1, u, hr, rfl, rfl, hS⟩ | ⟨x, er, hr, rfl⟩, hA⟩
  · have bd := numR_bd (n := k) (s := .good b) (fun b'' e => by cases e; exact h.2)
    rw [hr.out] at bd
    exact ⟨.inl ⟨_, b1, _, hr, rfl, ⟨rfl, bd⟩, hS⟩, hA⟩
  · exact ⟨.inr ⟨x, er, hr, rfl⟩, hA⟩
theorem tk_bind (h : Sk O w v b) : Calls Try.prog 91 #[v] w (Took O w v (bindT (.good b)) fun x _ u => u = .int .i64 x) := by
  have NM : Hid (Calls Try.prog 96 #[v, .int .i64 (1 : Nat)] w (Took O w v (numR 1 (.good b)) fun x _ u => u = .int .i64 x ∧ 0 ≤ x ∧ x < 256 ^ 1)) := sk_numb h 1 (by omega)
  have RB : Hid (∀ W x, 0 ≤ x ∧ x < 256 ^ 1 → Calls Try.prog 79 #[.int .i64 x] W fun e w' => e = .returned (.bool (bindB x)) ∧ w' = W) := fun W x hx => by
    have h := rightbind_any x W
    rw [p256_1] at hx
    rwa [show decide (1 ≤ x ∧ x ≤ 255) = bindB x from by unfold bindB; rw [Bool.eq_iff_iff, decide_eq_true_eq, decide_eq_true_eq]; omega] at h
  have MU : Hid (∀ W b1 c, Sk O W v b1 → Calls Try.prog 66 #[v, .bool c] W (Took O W v (mustR c (.good b1)) fun _ _ u => u = .tuple #[])) := fun W b1 c hW => sk_must hW c
  obtain ⟨g, rfl, hg⟩ := h.ptr
  clear h
  go_enter Try.func91, Try.ntmps91
  go_wp2_with (first
    | (go_at_call 96; refine NM.out.mono ?_; rintro e w1 ⟨⟨x1, b1, u, hr1, rfl, ⟨rfl, hx1⟩, hS1⟩ | ⟨x1, er, hr1, rfl⟩, hA1⟩; all_goals (try have hx2 := Hid.mk0 hx1; clear hx1))
    | (go_at_call 79; refine (RB.out _ x1 hx2.out).mono ?_; rintro e w2 ⟨rfl, rfl⟩)
    | (go_at_call 66; refine (MU.out _ _ _ hS1).mono ?_; rintro e w4 ⟨⟨x4, b4, u, hr4, rfl, rfl, hS4⟩ | ⟨x4, er, hr4, rfl⟩, hA4⟩))
  · go_ret
    refine ⟨.inl ⟨x1, b4, _, ?_, rfl, rfl, hS4⟩, hA1.same hA4⟩
    unfold bindT
    rw [bind_fwd hr1.out, bind_fwd hr4.out]; exact Hid.mk0 rfl
  · refine ⟨rfl, .inr ?_, hA1.same hA4⟩
    obtain ⟨y, hy⟩ : ∃ y, bindT (.good b) = (y, .bad er) := by unfold bindT; rw [bind_fwd hr1.out]; exact bind_bad (fun _ => keeps_pure _) hr4.out
    exact ⟨y, er, hy, rfl⟩
  · refine ⟨rfl, .inr ?_, hA1⟩
    obtain ⟨y, hy⟩ : ∃ y, bindT (.good b) = (y, .bad er) := bind_bad (fun _ => keeps_bind (keeps_must _) fun _ => keeps_pure _) hr1.out
    exact ⟨y, er, hy, rfl⟩
theorem tk_flag (h : Sk O w v b) : Calls Try.prog 97 #[v] w (Took O w v (flagT (.good b)) fun x _ u => u = .bool x) := by
  have NM : Hid (Calls Try.prog 96 #[v, .int .i64 (1 : Nat)] w (Took O w v (numR 1 (.good b)) fun x _ u => u = .int .i64 x ∧ 0 ≤ x ∧ x < 256 ^ 1)) := sk_numb h 1 (by omega)
  have RB : Hid (∀ W x, 0 ≤ x ∧ x < 256 ^ 1 → Calls Try.prog 82 #[.int .i64 x, .int .i64 0, .int .i64 1] W fun e w' => e = .returned (.bool (decide (x ≤ 1))) ∧ w' = W) := fun W x hx => by
    have h := within_any x 0 1 W
    rwa [show decide (0 ≤ x ∧ x ≤ 1) = decide (x ≤ 1) from by rw [Bool.eq_iff_iff, decide_eq_true_eq, decide_eq_true_eq]; omega] at h
  have MU : Hid (∀ W b1 c, Sk O W v b1 → Calls Try.prog 66 #[v, .bool c] W (Took O W v (mustR c (.good b1)) fun _ _ u => u = .tuple #[])) := fun W b1 c hW => sk_must hW c
  obtain ⟨g, rfl, hg⟩ := h.ptr
  clear h
  go_enter Try.func97, Try.ntmps97
  go_wp2_with (first
    | (go_at_call 96; refine NM.out.mono ?_; rintro e w1 ⟨⟨x1, b1, u, hr1, rfl, ⟨rfl, hx1⟩, hS1⟩ | ⟨x1, er, hr1, rfl⟩, hA1⟩; all_goals (try have hx2 := Hid.mk0 hx1; clear hx1))
    | (go_at_call 82; refine (RB.out _ x1 hx2.out).mono ?_; rintro e w2 ⟨rfl, rfl⟩)
    | (go_at_call 66; refine (MU.out _ _ (decide (x1 ≤ 1)) hS1).mono ?_; rintro e w4 ⟨⟨x4, b4, u, hr4, rfl, rfl, hS4⟩ | ⟨x4, er, hr4, rfl⟩, hA4⟩))
  · go_ret
    refine ⟨.inl ⟨decide (x1 = 1), b4, _, ?_, rfl, ?_, hS4⟩, hA1.same hA4⟩
    · unfold flagT
      rw [bind_fwd hr1.out, bind_fwd hr4.out]; exact Hid.mk0 rfl
    · first | rfl | (congr 1; rw [Bool.eq_iff_iff]; simp)
  · refine ⟨rfl, .inr ?_, hA1.same hA4⟩
    obtain ⟨y, hy⟩ : ∃ y, flagT (.good b) = (y, .bad er) := by unfold flagT; rw [bind_fwd hr1.out]; exact bind_bad (fun _ => keeps_pure _) hr4.out
    exact ⟨y, er, hy, rfl⟩
  · refine ⟨rfl, .inr ?_, hA1⟩
    obtain ⟨y, hy⟩ : ∃ y, flagT (.good b) = (y, .bad er) := bind_bad (fun _ => keeps_bind (keeps_must _) fun _ => keeps_pure _) hr1.out
    exact ⟨y, er, hy, rfl⟩
set_option maxRecDepth 100000 in
theorem tk_add (h : Sk O w v b) : Calls Try.prog 102 #[v] w (Took O w v (addT (.good b)) fun x _ u => u = .int .i64 x) := by
  have NM : Hid (Calls Try.prog 96 #[v, .int .i64 (4 : Nat)] w (Took O w v (numR 4 (.good b)) fun x _ u => u = .int .i64 x ∧ 0 ≤ x ∧ x < 4294967296)) := by
    have h := sk_numb h 4 (by omega)
    rwa [p256_4] at h
  have RB : Hid (∀ W x, Calls Try.prog 99 #[.int .i64 x] W fun e w' => e = .returned (.bool (addB x)) ∧ w' = W) := fun W x => rightadd_any x W
  have MU : Hid (∀ W b1 c, Sk O W v b1 → Calls Try.prog 66 #[v, .bool c] W (Took O W v (mustR c (.good b1)) fun _ _ u => u = .tuple #[])) := fun W b1 c hW => sk_must hW c
  obtain ⟨g, rfl, hg⟩ := h.ptr
  clear h
  go_enter Try.func102, Try.ntmps102
  go_wp2_with (first
    | (go_at_call 96; refine NM.out.mono ?_; rintro e w1 ⟨⟨x1, b1, u, hr1, rfl, ⟨rfl, hx0, hx1⟩, hS1⟩ | ⟨x1, er, hr1, rfl⟩, hA1⟩)
    | (go_at_call 99; refine (RB.out _ (x1 - 2147483648)).mono ?_; rintro e w2 ⟨rfl, rfl⟩)
    | (go_at_call 66; refine (MU.out _ _ _ hS1).mono ?_; rintro e w4 ⟨⟨x4, b4, u, hr4, rfl, rfl, hS4⟩ | ⟨x4, er, hr4, rfl⟩, hA4⟩))
  · go_ret
    refine ⟨.inl ⟨x1 - 2147483648, b4, _, ?_, rfl, rfl, hS4⟩, hA1.same hA4⟩
    unfold addT
    rw [bind_fwd hr1.out, bind_fwd hr4.out]; exact Hid.mk0 rfl
  · refine ⟨rfl, .inr ?_, hA1.same hA4⟩
    obtain ⟨y, hy⟩ : ∃ y, addT (.good b) = (y, .bad er) := by unfold addT; rw [bind_fwd hr1.out]; exact bind_bad (fun _ => keeps_pure _) hr4.out
    exact ⟨y, er, hy, rfl⟩
  · refine ⟨rfl, .inr ?_, hA1⟩
    obtain ⟨y, hy⟩ : ∃ y, addT (.good b) = (y, .bad er) := bind_bad (fun _ => keeps_bind (keeps_must _) fun _ => keeps_pure _) hr1.out
    exact ⟨y, er, hy, rfl⟩
theorem tk_word (h : Sk O w v b) : Calls Try.prog 93 #[v] w (Took O w v (numR 4 (.good b)) fun x _ u => u = .int .u32 x ∧ 0 ≤ x ∧ x < 4294967296) := by
  have NM : Hid (Calls Try.prog 96 #[v, .int .i64 (4 : Nat)] w (Took O w v (numR 4 (.good b)) fun x _ u => u = .int .i64 x ∧ 0 ≤ x ∧ x < 4294967296)) := by
    have h := sk_numb h 4 (by omega)
    rwa [p256_4] at h
  obtain ⟨g, rfl, hg⟩ := h.ptr
  clear h
  go_enter Try.func93, Try.ntmps93
  go_wp2_with (go_at_call 96; refine NM.out.mono ?_; rintro e w1 ⟨⟨x1, b1, u, hr1, rfl, ⟨rfl, hx0, hx1⟩, hS1⟩ | ⟨x1, er, hr1, rfl⟩, hA1⟩)
  · go_ret
    refine ⟨.inl ⟨x1, b1, _, hr1, rfl, ⟨?_, hx0, hx1⟩, hS1⟩, hA1⟩
    first | rfl | (congr 1; done) | (congr 1; simp [IntKind.wrap, IntKind.bits, IntKind.signed]; omega)
  · exact ⟨rfl, .inr ⟨x1, er, hr1, rfl⟩, hA1⟩
end
end Go.Proofs.Ytcbhnpjaaaefiaa
