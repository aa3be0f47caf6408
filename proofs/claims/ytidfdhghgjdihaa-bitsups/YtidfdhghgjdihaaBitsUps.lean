/- For every two numbers BitsUps returns true: bits.Up answers the least multiple that isn't below, -1 outside its range. No condition. -/
import Derived.Test.YtidfdhghgjdihaaAwake
import Derived.WalkKit
import Derived.ProofKit
import Derived.OpenShut
import Derived.ShutString
import Derived.ChangeOld
import Derived.Below
namespace Go.Proofs.Ytidfdhghgjdihaa.bitsUps
open Go.ChangeShapes Go.WideShapes Go.ChangeAt Go.RowKit
open Go.ChangeMaps (open_string shut_string)
set_option linter.unusedVariables false

theorem own : ownKnob Try.prog.godebug = none := by kernel_rfl
theorem laidOut : laidOutB Try.prog = true := by kernel_rfl

theorem up_out (x a : Int) (w : World) (h : x < 0 ∨ 1099511627776 < x ∨ a < 1 ∨ 1048576 < a) :
    Calls Try.prog 21 #[.int .i64 x, .int .i64 a] w fun e w' => e = .returned (.int .i64 (-1)) ∧ w' = w := by
  by_cases h1 : x < 0
  · go_enter Try.func21, Try.ntmps21
    go_wp2
    go_ret
    exact ⟨rfl, rfl⟩
  by_cases h2 : 1099511627776 < x
  · go_enter Try.func21, Try.ntmps21
    go_wp2
    go_ret
    exact ⟨rfl, rfl⟩
  by_cases h3 : a < 1
  · go_enter Try.func21, Try.ntmps21
    go_wp2
    go_ret
    exact ⟨rfl, rfl⟩
  have h4 : 1048576 < a := by omega
  clear h
  go_enter Try.func21, Try.ntmps21
  go_wp2
  go_ret
  exact ⟨rfl, rfl⟩

theorem up_spec (x a : Int) (w : World) (x0 : 0 ≤ x) (x1 : x ≤ 1099511627776) (a0 : 1 ≤ a) (a1 : a ≤ 1048576) :
    ∃ u : Int, x ≤ u ∧ u - x < a ∧ u % a = 0 ∧ Calls Try.prog 21 #[.int .i64 x, .int .i64 a] w fun e w' => e = .returned (.int .i64 u) ∧ w' = w := by
  have r0 : 0 ≤ (x + a - 1) % a := Int.emod_nonneg _ (by omega)
  have r1 : (x + a - 1) % a < a := Int.emod_lt_of_pos _ (by omega)
  refine ⟨_, ?_, ?_, ?_, up_in x a w x0 x1 a0 a1⟩
  · omega
  · omega
  · rw [Int.sub_emod, Int.emod_emod_of_dvd _ (Int.dvd_refl _), Int.sub_self, Int.zero_emod]

theorem walk (a0 : Int) (a1 : Int) (w0 : (Lit.int .i64 a0).wf = true) (w1 : (Lit.int .i64 a1).wf = true) (w : World) :
    Calls Try.prog 5 #[.int .i64 a0, .int .i64 a1] w fun e w' => e = .returned (.bool true) ∧ Below w.heap.size w w' := by
  clear w0 w1
  by_cases h1 : a0 < 0
  · have H' : Hid _ := up_out a0 a1 w (Or.inl h1)
    go_enter Try.func5, Try.ntmps5
    go_wp2_with (first | (go_at_call 21; refine Calls.mono H'.out ?_; rintro e w' ⟨rfl, rfl⟩) | (go_at_call 8; refine (awake_any _).mono ?_; rintro e w' ⟨rfl, hb⟩))
    go_ret
    exact ⟨rfl, hb⟩
  by_cases h2 : 1099511627776 < a0
  · have H' : Hid _ := up_out a0 a1 w (Or.inr (Or.inl h2))
    go_enter Try.func5, Try.ntmps5
    go_wp2_with (first | (go_at_call 21; refine Calls.mono H'.out ?_; rintro e w' ⟨rfl, rfl⟩) | (go_at_call 8; refine (awake_any _).mono ?_; rintro e w' ⟨rfl, hb⟩))
    go_ret
    exact ⟨rfl, hb⟩
  by_cases h3 : a1 < 1
  · have H' : Hid _ := up_out a0 a1 w (Or.inr (Or.inr (Or.inl h3)))
    go_enter Try.func5, Try.ntmps5
    go_wp2_with (first | (go_at_call 21; refine Calls.mono H'.out ?_; rintro e w' ⟨rfl, rfl⟩) | (go_at_call 8; refine (awake_any _).mono ?_; rintro e w' ⟨rfl, hb⟩))
    go_ret
    exact ⟨rfl, hb⟩
  by_cases h4 : 1048576 < a1
  · have H' : Hid _ := up_out a0 a1 w (Or.inr (Or.inr (Or.inr h4)))
    go_enter Try.func5, Try.ntmps5
    go_wp2_with (first | (go_at_call 21; refine Calls.mono H'.out ?_; rintro e w' ⟨rfl, rfl⟩) | (go_at_call 8; refine (awake_any _).mono ?_; rintro e w' ⟨rfl, hb⟩))
    go_ret
    exact ⟨rfl, hb⟩
  obtain ⟨u, u1, u2, u3, hc⟩ := up_spec a0 a1 w (by omega) (by omega) (by omega) (by omega)
  have H' : Hid _ := hc
  have u3' : (u % a1 == 0) = true := by simp [u3]
  clear hc u3
  go_enter Try.func5, Try.ntmps5
  go_wp2_with (first | (go_at_call 21; refine Calls.mono H'.out ?_; rintro e w' ⟨rfl, rfl⟩) | (go_at_call 8; refine (awake_any _).mono ?_; rintro e w' ⟨rfl, hb⟩))
  go_ret
  exact ⟨rfl, hb⟩

/-! ### The row's step -/
set_option maxRecDepth 100000 in
theorem lifted (os : Os) (started : os.Started) (H : Type) (enc : TypeId × Value → H) :
    ReturnsInHanded {} Try.checked os 5 .any (Rows.bitsUpsSpec.pre6 enc Try.prog Try.f5 Rows.bitsUpsRow.domain false) (Rows.bitsUpsSpec.post enc Try.prog Try.f5 false true false false) := by
  refine returnsInHanded_of_change (C := Try.checked) own started (by kernel_rfl) Try.func5
    (ChangeSpec.witness6 (enc := enc) (C := Try.checked) false ⟨#[], #[.int .i64 0, .int .i64 0], []⟩ 8 (by kernel_rfl) (by kernel_rfl) (by kernel_rfl) (by kernel_rfl)) ?_
  intro W base args ds gs before hval0 hW hcnd _
  have hval : ∀ (j : Nat) t v, Try.f5.params[j]? = some t → args[j]? = some v → Value.okWide Try.prog W .any base t v := hval0
  have hW' := hW
  obtain ⟨p, q, hA0, hV, rfl, hfz, hnd⟩ := hW
  have hA : DataW.TrodAll enc Try.prog W 0 (fun _ => true) true Try.f5.params.toList args.toList ds p := hA0
  rw [Try.params5] at hA hval
  obtain ⟨v0, vs0, d0, ds0, p0, q0, hargs, rfl, rfl, h0, r0⟩ := trodAll_cons hA
  obtain ⟨v1, vs1, d1, ds1, p1, q1, rfl, rfl, rfl, h1, r1⟩ := trodAll_cons r0
  obtain ⟨rfl, rfl, rfl⟩ := trodAll_nil r1
  obtain rfl : args = #[v0, v1] := by cases args; simp_all
  obtain ⟨rfl, rfl⟩ := trodVars_none hV
  obtain ⟨a0, rfl, rfl, rfl, w0⟩ := open_int Try.underlying3 (hval 0 3 v0 rfl rfl) h0
  obtain ⟨a1, rfl, rfl, rfl, w1⟩ := open_int Try.underlying3 (hval 1 3 v1 rfl rfl) h1
  clear hA0 hval0
  refine (walk a0 a1 w0 w1 W).mono fun e W' ⟨he, bel⟩ => ?_
  subst he
  exact ⟨_, rfl, _, _, _, [], _, [], hW', trodAll_mk1 (shut_bool Try.underlying4 _), (trodAll_cons_mk (shut_int Try.underlying3 w0) (trodAll_cons_mk (shut_int Try.underlying3 w1) trodAll_mk0)), rfl, bel.frame _, fun h => by cases h⟩

theorem over : Rows.bitsUpsRow.holds Try.pinned (OpenSpec.ofChange Rows.bitsUpsSpec) :=
  OpenClaim.holds_of_wide 5 Try.f5 rfl rfl rfl rfl rfl rfl rfl ⟨rfl, rfl, rfl, rfl, rfl⟩ rfl rfl rfl rfl rfl (by kernel_rfl) Try.func5 (by kernel_rfl)
    (of_decide_eq_true (by kernel_rfl)) (by unfold Func.isWrapper; first | (rw [if_pos (by decide +kernel)]; kernel_rfl) | (rw [if_neg (by decide +kernel)]; exact ⟨rfl, rfl⟩))
    (fun os started H enc _ => lifted os started H enc)

/-- The statement. -/
theorem proved_BitsUps : Rows.BitsUpsSaid :=
  over
end Go.Proofs.Ytidfdhghgjdihaa.bitsUps

namespace Go.Proofs.Ytidfdhghgjdihaa
theorem BitsUps_holds : Rows.BitsUpsSaid := bitsUps.proved_BitsUps
#print axioms BitsUps_holds
end Go.Proofs.Ytidfdhghgjdihaa
