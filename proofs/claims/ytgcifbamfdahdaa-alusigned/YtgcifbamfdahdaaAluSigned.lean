/- For every three words AluSigned returns true: less is an order of signed words; of a branch and its contrary just one is taken; what is added is taken away again. No condition. -/
import Derived.Test.YtgcifbamfdahdaaFrame
import Derived.Test.YtgcifbamfdahdaaAluAwake
import Derived.Deep.RegionHeld3
import Derived.WalkKit
import Derived.ProofKit
namespace Go.Proofs.Ytgcifbamfdahdaa.aluSigned
open Go.ChangeShapes Go.WideShapes Go.ChangeAt Go.RowKit Go.Sort
set_option linter.unusedVariables false

theorem lt_any (a b : Int) (w : World) (a0 : 0 ≤ a) (a1 : a < 4294967296) (b0 : 0 ≤ b) (b1 : b < 4294967296) :
    Calls Try.prog 16 #[.int .u32 a, .int .u32 b] w fun e w' => e = .returned (.bool (decide (signZ a 32 < signZ b 32))) ∧ w' = w := by
  have h : takenB 17 a b = decide (signZ a 32 < signZ b 32) := by simp [takenB]
  have HT : Hid (∀ W, Calls Try.prog 13 #[.int .i64 17, .int .u32 a, .int .u32 b] W fun e w' => e = .returned (.bool (decide (signZ a 32 < signZ b 32))) ∧ w' = W) := fun W => h ▸ taken_any 17 a b W a0 a1 b0 b1
  generalize signZ a 32 = x at HT ⊢
  generalize signZ b 32 = y at HT ⊢
  go_enter Try.func16, Try.ntmps16
  go_wp2_with (go_at_call 13; refine (HT.out _).mono ?_; rintro e w' ⟨rfl, rfl⟩)
  go_ret
  exact ⟨rfl, rfl⟩
/-- 1 or 0. -/
def oneIf (b : Bool) : Int := if b = true then 1 else 0
theorem one_if1 : oneIf true = 1 := rfl
theorem one_if0 : oneIf false = 0 := rfl
/-- All that is asked of the three words, as Booleans: which one is less. -/
theorem order (x y z : Int) : (decide (x < y) = true → decide (y < x) = false) ∧ (decide (x < y) = true → decide (y < z) = true → decide (x < z) = true) ∧ (x ≠ y → decide (x < y) = false → decide (y < x) = true) ∧ decide (y ≤ x) = !decide (x < y) := by
  refine ⟨?_, ?_, ?_, ?_⟩
  · simp; omega
  · simp; omega
  · simp; omega
  · rw [Bool.eq_iff_iff]; simp
set_option maxHeartbeats 2000000 in
theorem walk (a0 : Int) (w0 : (Lit.int .u32 a0).wf = true) (a1 : Int) (w1 : (Lit.int .u32 a1).wf = true) (a2 : Int) (w2 : (Lit.int .u32 a2).wf = true) (w : World) :
    Calls Try.prog 6 #[.int .u32 a0, .int .u32 a1, .int .u32 a2] w fun e w' => e = .returned (.bool true) ∧ Below w.heap.size w w' := by
  obtain ⟨s0, s1⟩ := wf_u32_bd w0
  obtain ⟨u0, u1⟩ := wf_u32_bd w1
  obtain ⟨v0, v1⟩ := wf_u32_bd w2
  clear w0 w1 w2
  obtain ⟨a, rfl⟩ := Int.eq_ofNat_of_zero_le s0
  obtain ⟨b, rfl⟩ := Int.eq_ofNat_of_zero_le u0
  obtain ⟨c, rfl⟩ := Int.eq_ofNat_of_zero_le v0
  have hab : signZ a 32 = signZ b 32 ↔ (a : Int) = b := by rw [sign32 a (by omega) (by omega), sign32 b (by omega) (by omega)]; unfold wrap32; omega
  have e15 : takenB 15 a b = decide (signZ a 32 = signZ b 32) := by simp [takenB]
  have e16 : takenB 16 a b = !decide (signZ a 32 = signZ b 32) := by simp [takenB]
  have e18 : takenB 18 a b = decide (signZ b 32 ≤ signZ a 32) := by simp [takenB]
  have e6 : doZ 6 0 a b = if decide (signZ a 32 < signZ b 32) = true then 1 else 0 := by unfold doZ; rw [if_neg (by decide), if_neg (by decide), if_neg (by decide), if_neg (by decide), if_neg (by decide), if_pos rfl]; simp
  have T15 := fun W => taken_any 15 a b W (by omega) (by omega) (by omega) (by omega)
  have T16 := fun W => taken_any 16 a b W (by omega) (by omega) (by omega) (by omega)
  have T18 := fun W => taken_any 18 a b W (by omega) (by omega) (by omega) (by omega)
  have Lab := fun W => lt_any a b W (by omega) (by omega) (by omega) (by omega)
  have Lba := fun W => lt_any b a W (by omega) (by omega) (by omega) (by omega)
  have Lbc := fun W => lt_any b c W (by omega) (by omega) (by omega) (by omega)
  have Lac := fun W => lt_any a c W (by omega) (by omega) (by omega) (by omega)
  have D6 := fun W => do_any 6 1 0 0 0 a b W (by omega) (by omega) (by omega) (by omega) (by omega) (by omega)
  have D1 := fun W => do_any 1 1 0 0 0 a b W (by omega) (by omega) (by omega) (by omega) (by omega) (by omega)
  have D2 := fun W => do_any 2 1 0 0 0 ((a + b) % 4294967296) b W (by omega) (by omega) (by omega) (by omega) (by omega) (by omega)
  have f1 : doZ 1 0 a b = (((a + b) % 4294967296 : Nat) : Int) := by unfold doZ; rw [if_pos rfl]; omega
  have f2 : doZ 2 0 ((a + b) % 4294967296) b = a := by unfold doZ; rw [if_neg (by decide), if_pos rfl]; omega
  rw [f2] at D2
  simp only [f1] at D1
  obtain ⟨o1, o2, o3, o4⟩ := order (signZ a 32) (signZ b 32) (signZ c 32)
  have he : (decide ((a : Int) = b)) = decide (signZ a 32 = signZ b 32) := by rw [Bool.eq_iff_iff]; simp only [decide_eq_true_eq]; exact hab.symm
  have hne : signZ a 32 ≠ signZ b 32 ↔ ¬ (a : Int) = b := not_congr hab
  rw [e15] at T15; rw [e16] at T16; rw [e18, o4] at T18; simp only [e6] at D6
  have oe : decide (signZ a 32 = signZ b 32) = true → decide (signZ a 32 < signZ b 32) = false ∧ decide (signZ b 32 < signZ a 32) = false := by
    intro h; have := of_decide_eq_true h; simp; omega
  have hq : ((a : Int) != b) = !decide (signZ a 32 = signZ b 32) := by rw [← he, bne]; rfl
  have o3' : decide (signZ a 32 = signZ b 32) = false → decide (signZ a 32 < signZ b 32) = false → decide (signZ b 32 < signZ a 32) = true := by
    intro h; exact o3 (of_decide_eq_false h)
  clear o3 o4 he hne hab e15 e16 e18 e6 f1 f2
  generalize (((a + b) % 4294967296 : Nat) : Int) = S at D1 D2
  generalize decide (signZ a 32 = signZ b 32) = E at *
  generalize decide (signZ a 32 < signZ b 32) = L1 at *
  generalize decide (signZ b 32 < signZ a 32) = L2 at *
  generalize decide (signZ b 32 < signZ c 32) = L3 at *
  generalize decide (signZ a 32 < signZ c 32) = L4 at *
  have H15 : Hid (∀ W, Calls Try.prog 13 #[.int .i64 15, .int .u32 a, .int .u32 b] W fun e w' => e = .returned (.bool E) ∧ w' = W) := T15
  have H16 : Hid (∀ W, Calls Try.prog 13 #[.int .i64 16, .int .u32 a, .int .u32 b] W fun e w' => e = .returned (.bool !E) ∧ w' = W) := T16
  have H18 : Hid (∀ W, Calls Try.prog 13 #[.int .i64 18, .int .u32 a, .int .u32 b] W fun e w' => e = .returned (.bool !L1) ∧ w' = W) := T18
  have Hab : Hid (∀ W, Calls Try.prog 16 #[.int .u32 a, .int .u32 b] W fun e w' => e = .returned (.bool L1) ∧ w' = W) := Lab
  have Hba : Hid (∀ W, Calls Try.prog 16 #[.int .u32 b, .int .u32 a] W fun e w' => e = .returned (.bool L2) ∧ w' = W) := Lba
  have Hbc : Hid (∀ W, Calls Try.prog 16 #[.int .u32 b, .int .u32 c] W fun e w' => e = .returned (.bool L3) ∧ w' = W) := Lbc
  have Hac : Hid (∀ W, Calls Try.prog 16 #[.int .u32 a, .int .u32 c] W fun e w' => e = .returned (.bool L4) ∧ w' = W) := Lac
  have H6 : Hid (∀ W, Calls Try.prog 11 #[.agg #[.int .i64 6, .int .i64 1, .int .i64 0, .int .i64 0, .int .i64 0], .int .u32 a, .int .u32 b] W fun e w' => e = .returned (.int .u32 (oneIf L1)) ∧ Below W.heap.size W w') := D6
  have H1 : Hid (∀ W, Calls Try.prog 11 #[.agg #[.int .i64 1, .int .i64 1, .int .i64 0, .int .i64 0, .int .i64 0], .int .u32 a, .int .u32 b] W fun e w' => e = .returned (.int .u32 S) ∧ Below W.heap.size W w') := D1
  have H2 : Hid (∀ W, Calls Try.prog 11 #[.agg #[.int .i64 2, .int .i64 1, .int .i64 0, .int .i64 0, .int .i64 0], .int .u32 S, .int .u32 b] W fun e w' => e = .returned (.int .u32 a) ∧ Below W.heap.size W w') := D2
  clear T15 T16 T18 Lab Lba Lbc Lac D6 D1 D2 s0 s1 u0 u1 v0 v1
  cases L1 <;> cases L2 <;> cases E <;> simp at o1 o3' oe <;> simp only [Bool.not_true, Bool.not_false, one_if0, one_if1] at hq H16 H18 H6
  · clear o1 o2 o3' oe
    go_enter Try.func6, Try.ntmps6
    go_wp2_with (first
      | (go_at_call 8; refine (awake_any _).mono ?_; rintro e w1 ⟨rfl, hb1⟩)
      | (go_at_call_of 13 (Value.int IntKind.i64 15); refine (H15.out _).mono ?_; rintro e w' ⟨rfl, rfl⟩)
      | (go_at_call_of 13 (Value.int IntKind.i64 16); refine (H16.out _).mono ?_; rintro e w' ⟨rfl, rfl⟩)
      | (go_at_call_of 13 (Value.int IntKind.i64 18); refine (H18.out _).mono ?_; rintro e w' ⟨rfl, rfl⟩)
      | (go_at_call 16; refine (Hab.out _).mono ?_; rintro e w' ⟨rfl, rfl⟩)
      | (go_at_call 16; refine (Hba.out _).mono ?_; rintro e w' ⟨rfl, rfl⟩)
      | (go_at_call 16; refine (Hbc.out _).mono ?_; rintro e w' ⟨rfl, rfl⟩)
      | (go_at_call 16; refine (Hac.out _).mono ?_; rintro e w' ⟨rfl, rfl⟩)
      | (go_at_call_of 11 (Value.agg #[Value.int IntKind.i64 1, Value.int IntKind.i64 1, Value.int IntKind.i64 0, Value.int IntKind.i64 0, Value.int IntKind.i64 0]); refine (H1.out _).mono ?_; rintro e w2 ⟨rfl, hb2⟩)
      | (go_at_call_of 11 (Value.agg #[Value.int IntKind.i64 2, Value.int IntKind.i64 1, Value.int IntKind.i64 0, Value.int IntKind.i64 0, Value.int IntKind.i64 0]); refine (H2.out _).mono ?_; rintro e w3 ⟨rfl, hb3⟩)
      | (go_at_call_of 11 (Value.agg #[Value.int IntKind.i64 6, Value.int IntKind.i64 1, Value.int IntKind.i64 0, Value.int IntKind.i64 0, Value.int IntKind.i64 0]); refine (H6.out _).mono ?_; rintro e w4 ⟨rfl, hb4⟩))
    go_ret
    exact ⟨rfl, bnext (bnext (bnext hb1 hb2) hb3) hb4⟩
  · clear o1 o2 o3' oe
    go_enter Try.func6, Try.ntmps6
    go_wp2_with (first
      | (go_at_call 8; refine (awake_any _).mono ?_; rintro e w1 ⟨rfl, hb1⟩)
      | (go_at_call_of 13 (Value.int IntKind.i64 15); refine (H15.out _).mono ?_; rintro e w' ⟨rfl, rfl⟩)
      | (go_at_call_of 13 (Value.int IntKind.i64 16); refine (H16.out _).mono ?_; rintro e w' ⟨rfl, rfl⟩)
      | (go_at_call_of 13 (Value.int IntKind.i64 18); refine (H18.out _).mono ?_; rintro e w' ⟨rfl, rfl⟩)
      | (go_at_call 16; refine (Hab.out _).mono ?_; rintro e w' ⟨rfl, rfl⟩)
      | (go_at_call 16; refine (Hba.out _).mono ?_; rintro e w' ⟨rfl, rfl⟩)
      | (go_at_call 16; refine (Hbc.out _).mono ?_; rintro e w' ⟨rfl, rfl⟩)
      | (go_at_call 16; refine (Hac.out _).mono ?_; rintro e w' ⟨rfl, rfl⟩)
      | (go_at_call_of 11 (Value.agg #[Value.int IntKind.i64 1, Value.int IntKind.i64 1, Value.int IntKind.i64 0, Value.int IntKind.i64 0, Value.int IntKind.i64 0]); refine (H1.out _).mono ?_; rintro e w2 ⟨rfl, hb2⟩)
      | (go_at_call_of 11 (Value.agg #[Value.int IntKind.i64 2, Value.int IntKind.i64 1, Value.int IntKind.i64 0, Value.int IntKind.i64 0, Value.int IntKind.i64 0]); refine (H2.out _).mono ?_; rintro e w3 ⟨rfl, hb3⟩)
      | (go_at_call_of 11 (Value.agg #[Value.int IntKind.i64 6, Value.int IntKind.i64 1, Value.int IntKind.i64 0, Value.int IntKind.i64 0, Value.int IntKind.i64 0]); refine (H6.out _).mono ?_; rintro e w4 ⟨rfl, hb4⟩))
    go_ret
    exact ⟨rfl, bnext (bnext (bnext hb1 hb2) hb3) hb4⟩
  · cases L3 <;> cases L4 <;> simp at o2
    all_goals
      clear o1 o2 o3' oe
      go_enter Try.func6, Try.ntmps6
      go_wp2_with (first
        | (go_at_call 8; refine (awake_any _).mono ?_; rintro e w1 ⟨rfl, hb1⟩)
        | (go_at_call_of 13 (Value.int IntKind.i64 15); refine (H15.out _).mono ?_; rintro e w' ⟨rfl, rfl⟩)
        | (go_at_call_of 13 (Value.int IntKind.i64 16); refine (H16.out _).mono ?_; rintro e w' ⟨rfl, rfl⟩)
        | (go_at_call_of 13 (Value.int IntKind.i64 18); refine (H18.out _).mono ?_; rintro e w' ⟨rfl, rfl⟩)
        | (go_at_call 16; refine (Hab.out _).mono ?_; rintro e w' ⟨rfl, rfl⟩)
        | (go_at_call 16; refine (Hba.out _).mono ?_; rintro e w' ⟨rfl, rfl⟩)
        | (go_at_call 16; refine (Hbc.out _).mono ?_; rintro e w' ⟨rfl, rfl⟩)
        | (go_at_call 16; refine (Hac.out _).mono ?_; rintro e w' ⟨rfl, rfl⟩)
        | (go_at_call_of 11 (Value.agg #[Value.int IntKind.i64 1, Value.int IntKind.i64 1, Value.int IntKind.i64 0, Value.int IntKind.i64 0, Value.int IntKind.i64 0]); refine (H1.out _).mono ?_; rintro e w2 ⟨rfl, hb2⟩)
        | (go_at_call_of 11 (Value.agg #[Value.int IntKind.i64 2, Value.int IntKind.i64 1, Value.int IntKind.i64 0, Value.int IntKind.i64 0, Value.int IntKind.i64 0]); refine (H2.out _).mono ?_; rintro e w3 ⟨rfl, hb3⟩)
        | (go_at_call_of 11 (Value.agg #[Value.int IntKind.i64 6, Value.int IntKind.i64 1, Value.int IntKind.i64 0, Value.int IntKind.i64 0, Value.int IntKind.i64 0]); refine (H6.out _).mono ?_; rintro e w4 ⟨rfl, hb4⟩))
      go_ret
      exact ⟨rfl, bnext (bnext (bnext hb1 hb2) hb3) hb4⟩

/-! ### The row's step -/
set_option maxRecDepth 100000 in
theorem lifted (os : Os) (started : os.Started) (H : Type) (enc : TypeId × Value → H) :
    ReturnsInHanded {} Try.checked os 6 .any (Rows.aluSignedSpec.pre6 enc Try.prog Try.f6 Rows.aluSignedRow.domain false) (Rows.aluSignedSpec.post enc Try.prog Try.f6 false true false false) := by
  refine returnsInHanded_of_change (C := Try.checked) own started (by kernel_rfl) Try.func6
    (ChangeSpec.witness6 (enc := enc) (C := Try.checked) false ⟨#[], #[.int .u32 0, .int .u32 0, .int .u32 0], []⟩ 8 (by kernel_rfl) (by kernel_rfl) (by kernel_rfl) (by kernel_rfl)) ?_
  intro W base args ds gs before hval0 hW hcnd _
  have hval : ∀ (j : Nat) t v, Try.f6.params[j]? = some t → args[j]? = some v → Value.okWide Try.prog W .any base t v := hval0
  have hW' := hW
  obtain ⟨p, q, hA0, hV, rfl, hfz, hnd⟩ := hW
  have hA : DataW.TrodAll enc Try.prog W 0 (fun _ => true) true Try.f6.params.toList args.toList ds p := hA0
  rw [Try.params6] at hA hval
  obtain ⟨v0, vs0, d0, ds0, p0, q0, hargs, rfl, rfl, h0, r0⟩ := trodAll_cons hA
  obtain ⟨v1, vs1, d1, ds1, p1, q1, rfl, rfl, rfl, h1, r1⟩ := trodAll_cons r0
  obtain ⟨v2, vs2, d2, ds2, p2, q2, rfl, rfl, rfl, h2, r2⟩ := trodAll_cons r1
  obtain ⟨rfl, rfl, rfl⟩ := trodAll_nil r2
  obtain rfl : args = #[v0, v1, v2] := by cases args; simp_all
  obtain ⟨rfl, rfl⟩ := trodVars_none hV
  obtain ⟨a0, rfl, rfl, rfl, w0⟩ := open_int Try.underlying24 (hval 0 24 v0 rfl rfl) h0
  obtain ⟨a1, rfl, rfl, rfl, w1⟩ := open_int Try.underlying24 (hval 1 24 v1 rfl rfl) h1
  obtain ⟨a2, rfl, rfl, rfl, w2⟩ := open_int Try.underlying24 (hval 2 24 v2 rfl rfl) h2
  clear hA0 hval0
  refine (walk a0 w0 a1 w1 a2 w2 W).mono fun e W' ⟨he, bel⟩ => ?_
  subst he
  exact ⟨_, rfl, _, _, _, [], _, [], hW', trodAll_mk1 (shut_bool Try.underlying4 _), (trodAll_cons_mk (shut_int Try.underlying24 w0) (trodAll_cons_mk (shut_int Try.underlying24 w1) (trodAll_cons_mk (shut_int Try.underlying24 w2) trodAll_mk0))), rfl, bel.frame _, fun h => by cases h⟩

theorem over : Rows.AluSignedSaid :=
  OpenClaim.holds_of_wide 6 Try.f6 rfl rfl rfl rfl rfl rfl rfl ⟨rfl, rfl, rfl, rfl, rfl⟩ rfl rfl rfl rfl rfl (by kernel_rfl) Try.func6 (by kernel_rfl)
    (of_decide_eq_true (by kernel_rfl)) (by unfold Func.isWrapper; first | (rw [if_pos (by decide +kernel)]; kernel_rfl) | (rw [if_neg (by decide +kernel)]; exact ⟨rfl, rfl⟩))
    (fun os started H enc _ => lifted os started H enc)
end Go.Proofs.Ytgcifbamfdahdaa.aluSigned

namespace Go.Proofs.Ytgcifbamfdahdaa
theorem AluSigned_holds : Rows.AluSignedSaid := aluSigned.over
#print axioms AluSigned_holds
end Go.Proofs.Ytgcifbamfdahdaa
