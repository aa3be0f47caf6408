/- For every instruction FlowKinds returns true: its kind, what it writes and reads, and whether it falls are as the document says; one that isn't right it passes by. No condition. -/
import Derived.Test.YtccfgnnfibblkaaFrame
import Derived.Test.YtccfgnnfibblkaaFlowAwake
import Derived.Test.YtccfgnnfibblkaaFlowMath
import Derived.Test.YtccfgnnfibblkaaFlowRef3
import Derived.Test.YtccfgnnfibblkaaCodeRef
import Derived.Deep.RegionHeld3
import Derived.WalkKit
import Derived.ProofKit
namespace Go.Proofs.Ytccfgnnfibblkaa.flowKinds
open Go.ChangeShapes Go.WideShapes Go.ChangeAt Go.RowKit Go.Sort
set_option linter.unusedVariables false

theorem ret_true {x : Bool} (h : x = true) : Ending.returned (.bool x) = .returned (.bool true) := by rw [h]
set_option maxHeartbeats 2000000 in
theorem walk (op a b c imm : Int) (wf : (Lit.int .i64 op).wf = true ∧ (Lit.int .i64 a).wf = true ∧ (Lit.int .i64 b).wf = true ∧ (Lit.int .i64 c).wf = true ∧ (Lit.int .i64 imm).wf = true) (w : World) :
    Calls Try.prog 3 #[.agg #[.int .i64 op, .int .i64 a, .int .i64 b, .int .i64 c, .int .i64 imm]] w fun e w' => e = .returned (.bool true) ∧ Below w.heap.size w w' := by
  clear wf
  have HG : Hid (∀ W, Calls Try.prog 9 #[.agg #[.int .i64 op, .int .i64 a, .int .i64 b, .int .i64 c, .int .i64 imm]] W fun e w' => e = .returned (.bool (rightB op a b c imm)) ∧ Below W.heap.size W w') := fun W => rright_any op a b c imm W
  cases hr : rightB op a b c imm
  · rw [hr] at HG
    go_enter Try.func3, Try.ntmps3
    go_wp2_with (first
      | (go_at_call 9; refine (HG.out _).mono ?_; rintro e w2 ⟨rfl, hb2⟩)
      | (go_at_call 8; revert hb2; intro hb2; refine (awake_any _).mono ?_; rintro e w3 ⟨rfl, hb3⟩)
      | (go_at_call 8; refine (awake_any _).mono ?_; rintro e w1 ⟨rfl, hb1⟩; obtain ⟨x0, x1, x2, x3, x4⟩ := (InsAt.new w op a b c imm 23).later hb1))
    go_ret
    exact ⟨rfl, (bnext ((bnext (((Below.refl _ w).alloc (Nat.le_refl _) _).trans (hb1.mono (by simp))) hb2)) hb3)⟩
  · rw [hr] at HG
    obtain ⟨a0, a1, b0, b1, c0, c1⟩ := right_regs _ _ _ _ _ hr
    have hop : 0 ≤ op ∧ op < 26 := by simp [rightB] at hr; omega
    have hL := read_ref op a b c hop.1 hop.2 a0 a1 b0 b1 c0 c1
    have hlen := read_two op a b c
    have hf : fallsB op = (kindZ op != 3 && kindZ op != 5) := by unfold fallsB; rw [Bool.eq_iff_iff]; simp
    have k1 := fun W => kind_any op a b c imm W hop.1 hop.2
    have k2 := fun W => rkind_any op a b c imm W hop.1 hop.2
    have k3 := fun W => writes_any op a b c imm W hop.1 hop.2
    have k4 := fun W => rwrites_any op a b c imm W hop.1 hop.2 a0
    have k5 := fun W => reads_any op a b c imm W hop.1 hop.2
    have k6 := fun W => list_any op a b c imm W hop.1 hop.2
    have k7 := fun W => falls_any op a b c imm W hop.1 hop.2
    rw [← hL] at k6
    generalize readL op a b c = L at k5 k6 hlen
    generalize fallsB op = F at k7 hf
    have hK : kindZ op = 0 ∨ kindZ op = 1 ∨ kindZ op = 2 ∨ kindZ op = 4 ∨ kindZ op = 5 ∨ kindZ op = 3 := by
      unfold kindZ; repeat' split
      all_goals omega
    generalize kindZ op = K at k1 k2 hf hK
    generalize writesZ op a = Z at k3 k4
    have K1 : Hid _ := k1
    have K2 : Hid _ := k2
    have K3 : Hid _ := k3
    have K4 : Hid _ := k4
    have K5 : Hid _ := k5
    have K6 : Hid _ := k6
    have K7 : Hid _ := k7
    have HLen : Hid (L.length ≤ 1000) := Nat.le_trans hlen (by omega)
    clear k1 k2 k3 k4 k5 k6 k7 hL hop a0 a1 b0 b1 c0 c1 hr hlen
    rcases hK with rfl | rfl | rfl | rfl | rfl | rfl
    rotate_left 5
    · subst hf
      go_enter Try.func3, Try.ntmps3
      go_wp2_with (first
        | (go_at_call 9; refine (HG.out _).mono ?_; rintro e w2 ⟨rfl, hb2⟩; have Q2 := Q1.later hb2; obtain ⟨y0, y1, y2, y3, y4⟩ := id Q2)
        | (go_at_call 8; refine (awake_any _).mono ?_; rintro e w1 ⟨rfl, hb1⟩; have Q1 := (InsAt.new w op a b c imm 23).later hb1; obtain ⟨x0, x1, x2, x3, x4⟩ := id Q1)
        | (go_at_call 10; refine (K2.out _).mono ?_; rintro e w3 ⟨rfl, hb3⟩; have Q3 := Q2.later hb3; obtain ⟨z0, z1, z2, z3, z4⟩ := id Q3))
      have HB3 : Hid (Below w.heap.size w w3) := (bnext ((bnext (((Below.refl _ w).alloc (Nat.le_refl _) _).trans (hb1.mono (by simp))) hb2)) hb3)
      clear hb1 hb2 hb3 x0 x1 x2 x3 x4 y0 y1 y2 y3 y4 Q1 Q2
      first
      | (go_region_held (fun w' => w'.cell? ⟨w.heap.size, 0, none⟩ = some (.int .i64 op) ∧ w'.cell? ⟨w.heap.size, 1, none⟩ = some (.int .i64 a) ∧ w'.cell? ⟨w.heap.size, 2, none⟩ = some (.int .i64 b) ∧ w'.cell? ⟨w.heap.size, 3, none⟩ = some (.int .i64 c) ∧ w'.cell? ⟨w.heap.size, 4, none⟩ = some (.int .i64 imm)) (first | go_keep | assumption)
        (first
        | (go_at_call 11; refine (K1.out _).mono ?_; rintro e w4 ⟨rfl, hb4⟩; have Q4 := Q3.later (((Below.refl _ w3).drew).trans hb4); obtain ⟨u0, u1, u2, u3, u4⟩ := id Q4)
        | (go_at_call 12; refine (K3.out _).mono ?_; rintro e w5 ⟨rfl, hb5⟩; have Q5 := Q4.later hb5; obtain ⟨u0, u1, u2, u3, u4⟩ := id Q5)
        | (go_at_call 13; refine (K4.out _).mono ?_; rintro e w6 ⟨rfl, hb6⟩; have Q6 := Q5.later hb6; obtain ⟨u0, u1, u2, u3, u4⟩ := id Q6)
        | (go_at_call 15; refine (K5.out _).mono ?_; rintro e w7 ⟨v7, rfl, hi7, hb7⟩; have Q7 := Q6.later hb7; obtain ⟨u0, u1, u2, u3, u4⟩ := id Q7)
        | (go_at_call 16; refine (K6.out _).mono ?_; rintro e w8 ⟨v8, rfl, hi8, hb8⟩; have Q8 := Q7.later hb8; obtain ⟨u0, u1, u2, u3, u4⟩ := id Q8)
        | (go_at_call 17; refine (K7.out _).mono ?_; rintro e w10 ⟨rfl, hb10⟩; have Q10 := Q9.later hb10; obtain ⟨u0, u1, u2, u3, u4⟩ := id Q10)
        | (go_at_call 14; refine (ints_same w8 _ _ v7 v8 L HLen.out (hi7.later hb8) hi8).mono ?_; rintro e w9 ⟨rfl, hb9⟩; have Q9 := Q8.later hb9; obtain ⟨u0, u1, u2, u3, u4⟩ := id Q9)))
      | fail
      go_wp2
      go_ret
      exact ⟨rfl, (bnext ((bnext ((bnext ((bnext ((bnext ((bnext ((bnext HB3.out (((Below.refl _ w3).drew).trans hb4))) hb5)) hb6)) hb7)) hb8)) hb9)) hb10)⟩
    all_goals
      subst hf
      go_enter Try.func3, Try.ntmps3
      go_wp2_with (first
        | (go_at_call 9; refine (HG.out _).mono ?_; rintro e w2 ⟨rfl, hb2⟩; have Q2 := Q1.later hb2; obtain ⟨y0, y1, y2, y3, y4⟩ := id Q2)
        | (go_at_call 8; refine (awake_any _).mono ?_; rintro e w1 ⟨rfl, hb1⟩; have Q1 := (InsAt.new w op a b c imm 23).later hb1; obtain ⟨x0, x1, x2, x3, x4⟩ := id Q1)
        | (go_at_call 10; refine (K2.out _).mono ?_; rintro e w3 ⟨rfl, hb3⟩; have Q3 := Q2.later hb3; obtain ⟨z0, z1, z2, z3, z4⟩ := id Q3))
      have HB3 : Hid (Below w.heap.size w w3) := (bnext ((bnext (((Below.refl _ w).alloc (Nat.le_refl _) _).trans (hb1.mono (by simp))) hb2)) hb3)
      clear hb1 hb2 hb3 x0 x1 x2 x3 x4 y0 y1 y2 y3 y4 Q1 Q2
      first
      | (go_region_held3 (fun w' => w'.cell? ⟨w.heap.size, 0, none⟩ = some (.int .i64 op) ∧ w'.cell? ⟨w.heap.size, 1, none⟩ = some (.int .i64 a) ∧ w'.cell? ⟨w.heap.size, 2, none⟩ = some (.int .i64 b) ∧ w'.cell? ⟨w.heap.size, 3, none⟩ = some (.int .i64 c) ∧ w'.cell? ⟨w.heap.size, 4, none⟩ = some (.int .i64 imm)) (first | go_keep | assumption)
        (first
        | (go_at_call 11; refine (K1.out _).mono ?_; rintro e w4 ⟨rfl, hb4⟩; have Q4 := Q3.later (((Below.refl _ w3).drew).trans hb4); obtain ⟨u0, u1, u2, u3, u4⟩ := id Q4)
        | (go_at_call 12; refine (K3.out _).mono ?_; rintro e w5 ⟨rfl, hb5⟩; have Q5 := Q4.later hb5; obtain ⟨u0, u1, u2, u3, u4⟩ := id Q5)
        | (go_at_call 13; refine (K4.out _).mono ?_; rintro e w6 ⟨rfl, hb6⟩; have Q6 := Q5.later hb6; obtain ⟨u0, u1, u2, u3, u4⟩ := id Q6)
        | (go_at_call 15; refine (K5.out _).mono ?_; rintro e w7 ⟨v7, rfl, hi7, hb7⟩; have Q7 := Q6.later hb7; obtain ⟨u0, u1, u2, u3, u4⟩ := id Q7)
        | (go_at_call 16; refine (K6.out _).mono ?_; rintro e w8 ⟨v8, rfl, hi8, hb8⟩; have Q8 := Q7.later hb8; obtain ⟨u0, u1, u2, u3, u4⟩ := id Q8)
        | (go_at_call 17; refine (K7.out _).mono ?_; rintro e w10 ⟨rfl, hb10⟩; have Q10 := Q9.later hb10; obtain ⟨u0, u1, u2, u3, u4⟩ := id Q10)
        | (go_at_call 14; refine (ints_same w8 _ _ v7 v8 L HLen.out (hi7.later hb8) hi8).mono ?_; rintro e w9 ⟨rfl, hb9⟩; have Q9 := Q8.later hb9; obtain ⟨u0, u1, u2, u3, u4⟩ := id Q9)))
      | fail
      go_wp2
      go_ret
      exact ⟨rfl, (bnext ((bnext ((bnext ((bnext ((bnext ((bnext ((bnext HB3.out (((Below.refl _ w3).drew).trans hb4))) hb5)) hb6)) hb7)) hb8)) hb9)) hb10)⟩

/-! ### The row's step -/
set_option maxRecDepth 100000 in
theorem lifted (os : Os) (started : os.Started) (H : Type) (enc : TypeId × Value → H) :
    ReturnsInHanded {} Try.checked os 3 .any (Rows.flowKindsSpec.pre6 enc Try.prog Try.f3 Rows.flowKindsRow.domain false) (Rows.flowKindsSpec.post enc Try.prog Try.f3 false true false false) := by
  refine returnsInHanded_of_change (C := Try.checked) own started (by kernel_rfl) Try.func3
    (ChangeSpec.witness6 (enc := enc) (C := Try.checked) false ⟨#[], #[.agg #[.int .i64 0, .int .i64 0, .int .i64 0, .int .i64 0, .int .i64 0]], []⟩ 8 (by kernel_rfl) (by kernel_rfl) (by kernel_rfl) (by kernel_rfl)) ?_
  intro W base args ds gs before hval0 hW hcnd _
  have hval : ∀ (j : Nat) t v, Try.f3.params[j]? = some t → args[j]? = some v → Value.okWide Try.prog W .any base t v := hval0
  have hW' := hW
  obtain ⟨p, q, hA0, hV, rfl, hfz, hnd⟩ := hW
  have hA : DataW.TrodAll enc Try.prog W 0 (fun _ => true) true Try.f3.params.toList args.toList ds p := hA0
  rw [Try.params3] at hA hval
  obtain ⟨v0, vs0, d0, ds0, p0, q0, hargs, rfl, rfl, h0, r0⟩ := trodAll_cons hA
  obtain ⟨rfl, rfl, rfl⟩ := trodAll_nil r0
  obtain rfl : args = #[v0] := by cases args; simp_all
  obtain ⟨rfl, rfl⟩ := trodVars_none hV
  have k0 := h0
  have lt0 : ∀ x ∈ p0, x.block < W.heap.size := by obtain ⟨m, hm⟩ := k0; exact DataW.trod_lt m _ _ _ hm
  obtain ⟨o0, a0, b0, c0, m0, rfl, w0⟩ := open_ins (hval 0 23 v0 rfl rfl) h0
  clear hA0 hval0
  refine (walk o0 a0 b0 c0 m0 w0 W).mono fun e W' ⟨he, bel⟩ => ?_
  subst he
  exact ⟨_, rfl, _, _, _, [], _, [], hW', trodAll_mk1 (shut_bool Try.underlying4 _), (trodAll_cons_mk (Below.trod laidOut (by kernel_rfl) (of_decide_eq_true (by kernel_rfl)) k0 bel lt0) trodAll_mk0), rfl, bel.frame _, fun h => by cases h⟩

theorem over : Rows.FlowKindsSaid :=
  OpenClaim.holds_of_wide 3 Try.f3 rfl rfl rfl rfl rfl rfl rfl ⟨rfl, rfl, rfl, rfl, rfl⟩ rfl rfl rfl rfl rfl (by kernel_rfl) Try.func3 (by kernel_rfl)
    (of_decide_eq_true (by kernel_rfl)) (by unfold Func.isWrapper; first | (rw [if_pos (by decide +kernel)]; kernel_rfl) | (rw [if_neg (by decide +kernel)]; exact ⟨rfl, rfl⟩))
    (fun os started H enc _ => lifted os started H enc)
end Go.Proofs.Ytccfgnnfibblkaa.flowKinds

namespace Go.Proofs.Ytccfgnnfibblkaa
theorem FlowKinds_holds : Rows.FlowKindsSaid := flowKinds.over
#print axioms FlowKinds_holds
end Go.Proofs.Ytccfgnnfibblkaa
