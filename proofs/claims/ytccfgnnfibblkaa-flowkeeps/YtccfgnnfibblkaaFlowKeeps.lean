/- For every instruction FlowKeeps returns true: what Reads answers is new memory: numbers written into an answer are in no later answer. No condition. -/
import Derived.Test.YtccfgnnfibblkaaFrame
import Derived.Test.YtccfgnnfibblkaaFlowAwake
import Derived.Test.YtccfgnnfibblkaaFlowMath
import Derived.Test.YtccfgnnfibblkaaFlowRef3
import Derived.Test.YtccfgnnfibblkaaCodeRef
import Derived.Deep.RegionHeld3
import Derived.WalkKit
import Derived.ProofKit
namespace Go.Proofs.Ytccfgnnfibblkaa.flowKeeps
open Go.ChangeShapes Go.WideShapes Go.ChangeAt Go.RowKit Go.Sort
set_option linter.unusedVariables false

set_option maxHeartbeats 2000000 in
theorem walk (op a b c imm : Int) (wf : (Lit.int .i64 op).wf = true ∧ (Lit.int .i64 a).wf = true ∧ (Lit.int .i64 b).wf = true ∧ (Lit.int .i64 c).wf = true ∧ (Lit.int .i64 imm).wf = true) (w : World) :
    Calls Try.prog 6 #[.agg #[.int .i64 op, .int .i64 a, .int .i64 b, .int .i64 c, .int .i64 imm]] w fun e w' => e = .returned (.bool true) ∧ Below w.heap.size w w' := by
  clear wf
  have HG : Hid (∀ W, Calls Try.prog 9 #[.agg #[.int .i64 op, .int .i64 a, .int .i64 b, .int .i64 c, .int .i64 imm]] W fun e w' => e = .returned (.bool (rightB op a b c imm)) ∧ Below W.heap.size W w') := fun W => rright_any op a b c imm W
  cases hr : rightB op a b c imm
  · rw [hr] at HG
    go_enter Try.func6, Try.ntmps6
    go_wp2_with (first
      | (go_at_call 9; refine (HG.out _).mono ?_; rintro e w2 ⟨rfl, hb2⟩)
      | (go_at_call 8; revert hb2; intro hb2; refine (awake_any _).mono ?_; rintro e w3 ⟨rfl, hb3⟩)
      | (go_at_call 8; refine (awake_any _).mono ?_; rintro e w1 ⟨rfl, hb1⟩; obtain ⟨x0, x1, x2, x3, x4⟩ := (InsAt.new w op a b c imm 23).later hb1))
    go_ret
    exact ⟨rfl, (bnext ((bnext (((Below.refl _ w).alloc (Nat.le_refl _) _).trans (hb1.mono (by simp))) hb2)) hb3)⟩
  · rw [hr] at HG
    obtain ⟨a0, a1, b0, b1, c0, c1⟩ := right_regs _ _ _ _ _ hr
    have hop : 0 ≤ op ∧ op < 26 := by simp [rightB] at hr; omega
    have hL := read_ref op a b c hop.1 hop.2 a0 a1 b0 b1 c0 c1
    have hlen := read_two op a b c
    have k5 := fun W => reads_any op a b c imm W hop.1 hop.2
    have k6 := fun W => list_any op a b c imm W hop.1 hop.2
    rw [← hL] at k6
    generalize readL op a b c = L at k5 k6 hlen
    have K5 : Hid _ := k5
    have K6 : Hid _ := k6
    clear k5 k6 hL hop a0 a1 b0 b1 c0 c1 hr
    go_enter Try.func6, Try.ntmps6
    go_wp2_with (first
      | (go_at_call 9; refine (HG.out _).mono ?_; rintro e w2 ⟨rfl, hb2⟩; have Q2 := Q1.later hb2; obtain ⟨y0, y1, y2, y3, y4⟩ := id Q2)
      | (go_at_call 8; refine (awake_any _).mono ?_; rintro e w1 ⟨rfl, hb1⟩; have Q1 := (InsAt.new w op a b c imm 23).later hb1; obtain ⟨x0, x1, x2, x3, x4⟩ := id Q1)
      | (go_at_call 15; refine (K5.out _).mono ?_; rintro e w3 ⟨v3, rfl, hi3, hb3⟩; obtain ⟨a3, cap3, rfl, hi3⟩ := hi3))
    have HB2 : Hid (Below w.heap.size w w2) := (bnext (((Below.refl _ w).alloc (Nat.le_refl _) _).trans (hb1.mono (by simp))) hb2)
    have hs2 : w.heap.size < w2.heap.size := by have := hb1.size; have := hb2.size; simp at *; omega
    have HB3 : Hid (Below w2.heap.size w2 w3) := hb3
    clear hb1 hb2 hb3 x0 x1 x2 x3 x4 y0 y1 y2 y3 y4 Q1
    go_loopw [4] (fun i wr => ∃ k : Nat, k ≤ L.length ∧ i = .int .i64 k ∧ Below w2.heap.size w2 wr ∧ (L = [] ∨ ∃ g, a3 = some ⟨g, 0, none⟩ ∧ w2.heap.size ≤ g ∧ ∀ j, j < L.length → (∃ u, wr.cell? ⟨g, j, none⟩ = some u) ∧ wr.frozen? ⟨g, j, none⟩ = false)) (fun i _ => L.length - (intOf i).toNat)
    case atStart =>
      refine ⟨0, Nat.zero_le _, rfl, HB3.out, ?_⟩
      rcases hi3 with h | ⟨g, rfl, h1, h2, h3⟩
      · exact .inl h
      · exact .inr ⟨g, rfl, h1, fun j hj => ⟨⟨_, by have := (h3 j (by simpa using hj)).1; rwa [Nat.zero_add] at this⟩, by have := (h3 j (by simpa using hj)).2; rwa [Nat.zero_add] at this⟩⟩
    case round =>
      obtain ⟨k, hk, rfl, hbel, hmem⟩ := hrel
      have HBr : Hid (Below w2.heap.size w2 wr) := hbel
      have HM : Hid (L = [] ∨ ∃ g, a3 = some ⟨g, 0, none⟩ ∧ w2.heap.size ≤ g ∧ ∀ j, j < L.length → (∃ u, wr.cell? ⟨g, j, none⟩ = some u) ∧ wr.frozen? ⟨g, j, none⟩ = false) := hmem
      clear hbel hmem
      by_cases hlt : k < L.length
      · rcases HM.out with h | ⟨g, rfl, hg, hc⟩
        · rw [h] at hlt; simp at hlt
        have HC : Hid (∀ j, j < L.length → (∃ u, wr.cell? ⟨g, j, none⟩ = some u) ∧ wr.frozen? ⟨g, j, none⟩ = false) := hc
        obtain ⟨⟨u, hu⟩, hfz⟩ := hc k hlt
        clear hc
        go_wp2
        go_roundw
        case rel =>
          refine ⟨k + 1, by omega, by go_num, HBr.out.setCell hg _, .inr ⟨g, rfl, hg, fun j hj => ?_⟩⟩
          obtain ⟨⟨u', hu'⟩, hf'⟩ := HC.out j hj
          exact ⟨cell?_setCell_some hu', by simpa using hf'⟩
        case measure => simp [intOf]; omega
      · obtain rfl : k = L.length := by omega
        have Q3 := Q2.later HBr.out
        obtain ⟨z0, z1, z2, z3, z4⟩ := id Q3
        go_wp2
        go_region_held3 (fun w' => w'.cell? ⟨w.heap.size, 0, none⟩ = some (.int .i64 op) ∧ w'.cell? ⟨w.heap.size, 1, none⟩ = some (.int .i64 a) ∧ w'.cell? ⟨w.heap.size, 2, none⟩ = some (.int .i64 b) ∧ w'.cell? ⟨w.heap.size, 3, none⟩ = some (.int .i64 c) ∧ w'.cell? ⟨w.heap.size, 4, none⟩ = some (.int .i64 imm)) (first | go_keep | assumption)
          (first
          | (go_at_call 15; refine (K5.out _).mono ?_; rintro e w7 ⟨v7, rfl, hi7, hb7⟩; have Q7 := Q3.later (((Below.refl _ wr).drew).trans hb7); obtain ⟨u0, u1, u2, u3, u4⟩ := id Q7)
          | (go_at_call 16; refine (K6.out _).mono ?_; rintro e w8 ⟨v8, rfl, hi8, hb8⟩; have Q8 := Q7.later hb8; obtain ⟨u0, u1, u2, u3, u4⟩ := id Q8)
          | (go_at_call 14; refine (ints_same w8 _ _ v7 v8 L (Nat.le_trans hlen (by omega)) (hi7.later hb8) hi8).mono ?_; rintro e w9 ⟨rfl, hb9⟩; have Q9 := Q8.later hb9; obtain ⟨u0, u1, u2, u3, u4⟩ := id Q9))
        go_wp2
        go_ret
        exact ⟨rfl, (bnext ((bnext ((bnext (HB2.out.trans (HBr.out.mono (by omega))) (((Below.refl _ wr).drew).trans hb7))) hb8)) hb9)⟩

/-! ### The row's step -/
set_option maxRecDepth 100000 in
theorem lifted (os : Os) (started : os.Started) (H : Type) (enc : TypeId × Value → H) :
    ReturnsInHanded {} Try.checked os 6 .any (Rows.flowKeepsSpec.pre6 enc Try.prog Try.f6 Rows.flowKeepsRow.domain false) (Rows.flowKeepsSpec.post enc Try.prog Try.f6 false true false false) := by
  refine returnsInHanded_of_change (C := Try.checked) own started (by kernel_rfl) Try.func6
    (ChangeSpec.witness6 (enc := enc) (C := Try.checked) false ⟨#[], #[.agg #[.int .i64 0, .int .i64 0, .int .i64 0, .int .i64 0, .int .i64 0]], []⟩ 8 (by kernel_rfl) (by kernel_rfl) (by kernel_rfl) (by kernel_rfl)) ?_
  intro W base args ds gs before hval0 hW hcnd _
  have hval : ∀ (j : Nat) t v, Try.f6.params[j]? = some t → args[j]? = some v → Value.okWide Try.prog W .any base t v := hval0
  have hW' := hW
  obtain ⟨p, q, hA0, hV, rfl, hfz, hnd⟩ := hW
  have hA : DataW.TrodAll enc Try.prog W 0 (fun _ => true) true Try.f6.params.toList args.toList ds p := hA0
  rw [Try.params6] at hA hval
  obtain ⟨v0, vs0, d0, ds0, p0, q0, hargs, rfl, rfl, h0, r0⟩ := trodAll_cons hA
  obtain ⟨rfl, rfl, rfl⟩ := trodAll_nil r0
  obtain rfl : args = #[v0] := by cases args; simp_all
  obtain ⟨rfl, rfl⟩ := trodVars_none hV
  have k0 := h0
  have lt0 : ∀ x ∈ p0, x.block < W.heap.size := by obtain ⟨m, hm⟩ := k0; exact DataW.trod_lt m _ _ _ hm
  obtain ⟨o0, a0, b0, c0, m0, rfl, w0⟩ := open_ins (hval 0 23 v0 rfl rfl) h0
  clear hA0 hval0
  refine (walk o0 a0 b0 c0 m0 w0 W).mono fun e W' ⟨he, bel⟩ => ?_
  subst he
  exact ⟨_, rfl, _, _, _, [], _, [], hW', trodAll_mk1 (shut_bool Try.underlying4 _), (trodAll_cons_mk (Below.trod laidOut (by kernel_rfl) (of_decide_eq_true (by kernel_rfl)) k0 bel lt0) trodAll_mk0), rfl, bel.frame _, fun h => by cases h⟩

theorem over : Rows.FlowKeepsSaid :=
  OpenClaim.holds_of_wide 6 Try.f6 rfl rfl rfl rfl rfl rfl rfl ⟨rfl, rfl, rfl, rfl, rfl⟩ rfl rfl rfl rfl rfl (by kernel_rfl) Try.func6 (by kernel_rfl)
    (of_decide_eq_true (by kernel_rfl)) (by unfold Func.isWrapper; first | (rw [if_pos (by decide +kernel)]; kernel_rfl) | (rw [if_neg (by decide +kernel)]; exact ⟨rfl, rfl⟩))
    (fun os started H enc _ => lifted os started H enc)
end Go.Proofs.Ytccfgnnfibblkaa.flowKeeps

namespace Go.Proofs.Ytccfgnnfibblkaa
theorem FlowKeeps_holds : Rows.FlowKeepsSaid := flowKeeps.over
#print axioms FlowKeeps_holds
end Go.Proofs.Ytccfgnnfibblkaa
