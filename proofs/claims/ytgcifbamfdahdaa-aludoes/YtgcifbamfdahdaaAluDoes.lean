/- For every instruction and every two words AluDoes returns true: a right instruction that is pure writes what the document's own answer says; one that isn't pure writes 0. No condition. -/
import Derived.Test.YtgcifbamfdahdaaFrame
import Derived.Test.YtgcifbamfdahdaaAluAwake
import Derived.Test.YtgcifbamfdahdaaCodeRef
import Derived.Test.YtgcifbamfdahdaaFlowKind
import Derived.Deep.RegionHeld3
import Derived.WalkKit
import Derived.ProofKit
namespace Go.Proofs.Ytgcifbamfdahdaa.aluDoes
open Go.ChangeShapes Go.WideShapes Go.ChangeAt Go.RowKit Go.Sort
set_option linter.unusedVariables false

theorem right_pure (op a b c imm : Int) (h : rightB op a b c imm = true) : 0 ≤ op ∧ op < 26 ∧ (1 ≤ op ∧ op ≤ 10 ∨ op = 24 → -32768 ≤ imm ∧ imm ≤ 65535) ∧ (op = 10 → 0 ≤ imm) := by
  have hop : 0 ≤ op ∧ op < 26 := by simp [rightB] at h; omega
  refine ⟨hop.1, hop.2, ?_, ?_⟩
  · intro h1
    rcases (by omega : (1 ≤ op ∧ op ≤ 7) ∨ op = 8 ∨ op = 9 ∨ op = 10 ∨ op = 24) with h7 | rfl | rfl | rfl | rfl
    · rw [right_three _ _ _ _ _ h7] at h; simp at h; omega
    · rw [right_near _ _ _ _ _ (.inl rfl)] at h; simp at h; omega
    · rw [right_high] at h; simp at h; omega
    · rw [right_ori] at h; simp at h; omega
    · rw [right_no _ _ _ _ _ (by omega)] at h; simp at h; omega
  · rintro rfl
    rw [right_ori] at h; simp at h; omega
theorem kind_pure (op : Int) (h0 : 0 ≤ op) (h1 : op < 26) : (kindZ op = 0 → op = 1 ∨ op = 2 ∨ op = 3 ∨ op = 4 ∨ op = 5 ∨ op = 6 ∨ op = 7 ∨ op = 8 ∨ op = 9 ∨ op = 10 ∨ op = 24) ∧ (kindZ op ≠ 0 → ∀ imm b c, doZ op imm b c = 0) := by
  unfold kindZ
  constructor
  · intro h; split at h
    · omega
    · repeat' split at h
      all_goals omega
  · intro h imm b c
    have : ¬ (1 ≤ op ∧ op ≤ 10) := by intro hh; rw [if_pos (.inl hh)] at h; exact h rfl
    unfold doZ
    repeat rw [if_neg (by omega)]
theorem walk (op a b c imm : Int) (w0 : (Lit.int .i64 op).wf = true ∧ (Lit.int .i64 a).wf = true ∧ (Lit.int .i64 b).wf = true ∧ (Lit.int .i64 c).wf = true ∧ (Lit.int .i64 imm).wf = true) (a1 : Int) (w1 : (Lit.int .u32 a1).wf = true) (a2 : Int) (w2 : (Lit.int .u32 a2).wf = true) (w : World) :
    Calls Try.prog 3 #[.agg #[.int .i64 op, .int .i64 a, .int .i64 b, .int .i64 c, .int .i64 imm], .int .u32 a1, .int .u32 a2] w fun e w' => e = .returned (.bool true) ∧ Below w.heap.size w w' := by
  obtain ⟨u0, u1⟩ := wf_u32_bd w1
  obtain ⟨v0, v1⟩ := wf_u32_bd w2
  clear w0 w1 w2
  have HR : Hid (∀ W, Calls Try.prog 9 #[.agg #[.int .i64 op, .int .i64 a, .int .i64 b, .int .i64 c, .int .i64 imm]] W fun e w' => e = .returned (.bool (rightB op a b c imm)) ∧ Below W.heap.size W w') := fun W => rright_any op a b c imm W
  have HP : Hid (rightB op a b c imm = true → 0 ≤ op ∧ op < 26 ∧ (1 ≤ op ∧ op ≤ 10 ∨ op = 24 → -32768 ≤ imm ∧ imm ≤ 65535) ∧ (op = 10 → 0 ≤ imm)) := right_pure op a b c imm
  generalize rightB op a b c imm = R at HR HP
  have HN : Hid (InsAt (w.alloc (.cells #[.int .i64 op, .int .i64 a, .int .i64 b, .int .i64 c, .int .i64 imm] 23)) w.heap.size op a b c imm) := InsAt.new w op a b c imm 23
  have HA : Hid (Below w.heap.size w (w.alloc (.cells #[.int .i64 op, .int .i64 a, .int .i64 b, .int .i64 c, .int .i64 imm] 23))) := (Below.refl _ w).alloc (Nat.le_refl _) _
  have HS : Hid (w.heap.size ≤ (w.alloc (.cells #[.int .i64 op, .int .i64 a, .int .i64 b, .int .i64 c, .int .i64 imm] 23)).heap.size) := by simp [Hid]
  cases R
  · clear HP
    go_enter Try.func3, Try.ntmps3
    go_wp2_with (first
      | (go_at_call 9; refine (HR.out _).mono ?_; rintro e w2 ⟨rfl, hb2⟩)
      | (go_at_call 8; revert hb2; intro hb2; refine (awake_any _).mono ?_; rintro e w3 ⟨rfl, hb3⟩)
      | (go_at_call 8; refine (awake_any _).mono ?_; rintro e w1 ⟨rfl, hb1⟩; obtain ⟨x0, x1, x2, x3, x4⟩ := HN.out.later hb1))
    go_ret
    exact ⟨rfl, bnext (bnext (HA.out.trans (hb1.mono HS.out)) hb2) hb3⟩
  · obtain ⟨h0, h1, h8, h10⟩ := HP.out rfl
    obtain ⟨b', rfl⟩ := Int.eq_ofNat_of_zero_le u0
    obtain ⟨c', rfl⟩ := Int.eq_ofNat_of_zero_le v0
    have HD : Hid (∀ W, Calls Try.prog 11 #[.agg #[.int .i64 op, .int .i64 a, .int .i64 b, .int .i64 c, .int .i64 imm], .int .u32 b', .int .u32 c'] W fun e w' => e = .returned (.int .u32 (doZ op imm b' c')) ∧ Below W.heap.size W w') := fun W => do_any op a b c imm b' c' W (by omega) (by omega) h0 h1 (fun h => h8 (by omega)) h10
    have HK : Hid (∀ W, Calls Try.prog 10 #[.agg #[.int .i64 op, .int .i64 a, .int .i64 b, .int .i64 c, .int .i64 imm]] W fun e w' => e = .returned (.int .i64 (kindZ op)) ∧ Below W.heap.size W w') := fun W => rkind_any op a b c imm W h0 h1
    obtain ⟨kp, kn⟩ := kind_pure op h0 h1
    by_cases hk : kindZ op = 0
    · rw [hk] at HK
      have ho := kp hk
      have HE : Hid (∀ W, Calls Try.prog 12 #[.agg #[.int .i64 op, .int .i64 a, .int .i64 b, .int .i64 c, .int .i64 imm], .int .u32 b', .int .u32 c'] W fun e w' => e = .returned (.int .u32 (doZ op imm b' c')) ∧ Below W.heap.size W w') := by
        intro W
        obtain ⟨i0, i1⟩ := h8 (by omega)
        exact rdo_any op a b c imm b' c' W (by omega) (by omega) i0 i1 (by omega)
      generalize doZ op imm b' c' = D at HD HE
      clear kp kn hk ho h0 h1 h8 h10 HP u0 u1 v0 v1
      go_enter Try.func3, Try.ntmps3
      go_wp2_with (first
        | (go_at_call 8; refine (awake_any _).mono ?_; rintro e w1 ⟨rfl, hb1⟩; have Q1 := HN.out.later hb1; obtain ⟨x0, x1, x2, x3, x4⟩ := id Q1)
        | (go_at_call 9; refine (HR.out _).mono ?_; rintro e w2 ⟨rfl, hb2⟩; have Q2 := Q1.later hb2; obtain ⟨x0, x1, x2, x3, x4⟩ := id Q2)
        | (go_at_call 10; refine (HK.out _).mono ?_; rintro e w3 ⟨rfl, hb3⟩; have Q3 := Q2.later hb3; obtain ⟨x0, x1, x2, x3, x4⟩ := id Q3))
      go_region_held3 (fun w' => w'.cell? ⟨w.heap.size, 0, none⟩ = some (.int .i64 op) ∧ w'.cell? ⟨w.heap.size, 1, none⟩ = some (.int .i64 a) ∧ w'.cell? ⟨w.heap.size, 2, none⟩ = some (.int .i64 b) ∧ w'.cell? ⟨w.heap.size, 3, none⟩ = some (.int .i64 c) ∧ w'.cell? ⟨w.heap.size, 4, none⟩ = some (.int .i64 imm)) (first | go_keep | assumption)
        (first
        | (go_at_call 11; refine (HD.out _).mono ?_; rintro e w4 ⟨rfl, hb4⟩; have Q4 := Q3.later (((Below.refl _ w3).drew).trans hb4); obtain ⟨u0, u1, u2, u3, u4⟩ := id Q4)
        | (go_at_call 12; refine (HE.out _).mono ?_; rintro e w5 ⟨rfl, hb5⟩; have Q5 := Q4.later hb5; obtain ⟨u0, u1, u2, u3, u4⟩ := id Q5))
      go_wp2
      go_ret
      exact ⟨rfl, bnext (bnext (bnext (bnext (HA.out.trans (hb1.mono HS.out)) hb2) hb3) (((Below.refl _ w3).drew).trans hb4)) hb5⟩
    · rw [kn hk] at HD
      have hkq : (kindZ op != 0) = true := by simp [hk]
      generalize kindZ op = K at HK hkq
      clear kp kn hk h0 h1 h8 h10 HP u0 u1 v0 v1
      go_enter Try.func3, Try.ntmps3
      go_wp2_with (first
        | (go_at_call 8; refine (awake_any _).mono ?_; rintro e w1 ⟨rfl, hb1⟩; have Q1 := HN.out.later hb1; obtain ⟨x0, x1, x2, x3, x4⟩ := id Q1)
        | (go_at_call 9; refine (HR.out _).mono ?_; rintro e w2 ⟨rfl, hb2⟩; have Q2 := Q1.later hb2; obtain ⟨x0, x1, x2, x3, x4⟩ := id Q2)
        | (go_at_call 10; refine (HK.out _).mono ?_; rintro e w3 ⟨rfl, hb3⟩; have Q3 := Q2.later hb3; obtain ⟨x0, x1, x2, x3, x4⟩ := id Q3)
        | (go_at_call 11; refine (HD.out _).mono ?_; rintro e w4 ⟨rfl, hb4⟩))
      go_ret
      exact ⟨rfl, bnext (bnext (bnext (HA.out.trans (hb1.mono HS.out)) hb2) hb3) hb4⟩

/-! ### The row's step -/
set_option maxRecDepth 100000 in
theorem lifted (os : Os) (started : os.Started) (H : Type) (enc : TypeId × Value → H) :
    ReturnsInHanded {} Try.checked os 3 .any (Rows.aluDoesSpec.pre6 enc Try.prog Try.f3 Rows.aluDoesRow.domain false) (Rows.aluDoesSpec.post enc Try.prog Try.f3 false true false false) := by
  refine returnsInHanded_of_change (C := Try.checked) own started (by kernel_rfl) Try.func3
    (ChangeSpec.witness6 (enc := enc) (C := Try.checked) false ⟨#[], #[.agg #[.int .i64 0, .int .i64 0, .int .i64 0, .int .i64 0, .int .i64 0], .int .u32 0, .int .u32 0], []⟩ 8 (by kernel_rfl) (by kernel_rfl) (by kernel_rfl) (by kernel_rfl)) ?_
  intro W base args ds gs before hval0 hW hcnd _
  have hval : ∀ (j : Nat) t v, Try.f3.params[j]? = some t → args[j]? = some v → Value.okWide Try.prog W .any base t v := hval0
  have hW' := hW
  obtain ⟨p, q, hA0, hV, rfl, hfz, hnd⟩ := hW
  have hA : DataW.TrodAll enc Try.prog W 0 (fun _ => true) true Try.f3.params.toList args.toList ds p := hA0
  rw [Try.params3] at hA hval
  obtain ⟨v0, vs0, d0, ds0, p0, q0, hargs, rfl, rfl, h0, r0⟩ := trodAll_cons hA
  obtain ⟨v1, vs1, d1, ds1, p1, q1, rfl, rfl, rfl, h1, r1⟩ := trodAll_cons r0
  obtain ⟨v2, vs2, d2, ds2, p2, q2, rfl, rfl, rfl, h2, r2⟩ := trodAll_cons r1
  obtain ⟨rfl, rfl, rfl⟩ := trodAll_nil r2
  obtain rfl : args = #[v0, v1, v2] := by cases args; simp_all
  obtain ⟨rfl, rfl⟩ := trodVars_none hV
  have k0 := h0
  have lt0 : ∀ x ∈ p0, x.block < W.heap.size := by obtain ⟨m, hm⟩ := k0; exact DataW.trod_lt m _ _ _ hm
  obtain ⟨o0, a0, b0, c0, m0, rfl, w0⟩ := open_ins (hval 0 23 v0 rfl rfl) h0
  obtain ⟨a1, rfl, rfl, rfl, w1⟩ := open_int Try.underlying24 (hval 1 24 v1 rfl rfl) h1
  obtain ⟨a2, rfl, rfl, rfl, w2⟩ := open_int Try.underlying24 (hval 2 24 v2 rfl rfl) h2
  clear hA0 hval0
  refine (walk o0 a0 b0 c0 m0 w0 a1 w1 a2 w2 W).mono fun e W' ⟨he, bel⟩ => ?_
  subst he
  exact ⟨_, rfl, _, _, _, [], _, [], hW', trodAll_mk1 (shut_bool Try.underlying4 _), (trodAll_cons_mk (Below.trod laidOut (by kernel_rfl) (of_decide_eq_true (by kernel_rfl)) k0 bel lt0) (trodAll_cons_mk (shut_int Try.underlying24 w1) (trodAll_cons_mk (shut_int Try.underlying24 w2) trodAll_mk0))), rfl, bel.frame _, fun h => by cases h⟩

theorem over : Rows.AluDoesSaid :=
  OpenClaim.holds_of_wide 3 Try.f3 rfl rfl rfl rfl rfl rfl rfl ⟨rfl, rfl, rfl, rfl, rfl⟩ rfl rfl rfl rfl rfl (by kernel_rfl) Try.func3 (by kernel_rfl)
    (of_decide_eq_true (by kernel_rfl)) (by unfold Func.isWrapper; first | (rw [if_pos (by decide +kernel)]; kernel_rfl) | (rw [if_neg (by decide +kernel)]; exact ⟨rfl, rfl⟩))
    (fun os started H enc _ => lifted os started H enc)
end Go.Proofs.Ytgcifbamfdahdaa.aluDoes

namespace Go.Proofs.Ytgcifbamfdahdaa
theorem AluDoes_holds : Rows.AluDoesSaid := aluDoes.over
#print axioms AluDoes_holds
end Go.Proofs.Ytgcifbamfdahdaa
