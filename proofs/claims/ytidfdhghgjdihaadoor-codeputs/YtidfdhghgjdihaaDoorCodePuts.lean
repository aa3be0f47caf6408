/- For every instruction CodePuts returns true: Right and Put answer what the document's own answers say. The package variable shapes holds what the program's text lays there. -/
import Derived.Test.YtidfdhghgjdihaaDoorCodeFrame
import Derived.WalkKit
import Derived.ProofKit
namespace Go.Proofs.YtidfdhghgjdihaaDoor.codePuts
open Go.ChangeShapes Go.WideShapes Go.ChangeAt Go.RowKit Go.Deep
set_option linter.unusedVariables false

set_option maxHeartbeats 2000000 in
theorem walk_yes (op a b c imm : Int) (w : World) (hT : Tab w) (hr : rightB op a b c imm = true) :
    Calls Tryd.prog 3 #[.agg (insV op a b c imm)] w fun e w' => e = .returned (.bool true) ∧ Below w.heap.size w w' := by
  have HT : Hid (Tab w) := hT
  clear hT
  unfold insV
  have HB0 : Hid (Below w.heap.size w (w.alloc (.cells #[.int .i64 op, .int .i64 a, .int .i64 b, .int .i64 c, .int .i64 imm] 23))) := (Below.refl _ _).alloc (Nat.le_refl _) _
  have HI0 : Hid (InsAt (w.alloc (.cells #[.int .i64 op, .int .i64 a, .int .i64 b, .int .i64 c, .int .i64 imm] 23)) w.heap.size op a b c imm) := InsAt.new w op a b c imm 23
  have HR : Hid (rightB op a b c imm = true) := hr
  clear hr
  go_enter Tryd.func3, Tryd.ntmps3
  go_wp2_with fail
  refine (put_yes _ _ _ _ _ _ (HT.out.later HB0.out) HR.out).mono ?_
  rintro e w1 ⟨rfl, hb1⟩
  have HB1 : Hid (Below w.heap.size w w1) := HB0.out.trans (hb1.mono (by simp))
  have HI1 : Hid (InsAt w1 w.heap.size op a b c imm) := HI0.out.later hb1
  obtain ⟨f0, f1, f2, f3, f4⟩ := HI1.out
  clear hb1
  go_wp2_with fail
  go_region_with (first
    | (go_at_call 10; refine (awake_any _ ?_).mono ?_; exact HT.out.later HB1.out.drew; rintro e w2 ⟨rfl, hb2⟩; have HB2 : Hid (Below w.heap.size w w2) := HB1.out.drew.trans (hb2.mono HB1.out.size); have HI2 : Hid (InsAt w2 w.heap.size op a b c imm) := InsAt.later (w := w1.drew) HI1.out hb2; obtain ⟨g0, g1, g2, g3, g4⟩ := HI2.out; clear hb2)
    | (go_at_call 11; refine (right_any _ _ _ _ _ _ (HT.out.later HB2.out)).mono ?_; rintro e w3 ⟨rfl, hb3⟩; rw [HR.out]; have HB3 : Hid (Below w.heap.size w w3) := HB2.out.trans (hb3.mono HB2.out.size); have HI3 : Hid (InsAt w3 w.heap.size op a b c imm) := HI2.out.later hb3; obtain ⟨k0, k1, k2, k3, k4⟩ := HI3.out; clear hb3)
    | (go_at_call 12; refine (rright_any _ _ _ _ _ _).mono ?_; rintro e w4 ⟨rfl, hb4⟩; rw [HR.out]; have HB4 : Hid (Below w.heap.size w w4) := HB3.out.trans (hb4.mono HB3.out.size); have HI4 : Hid (InsAt w4 w.heap.size op a b c imm) := HI3.out.later hb4; obtain ⟨l0, l1, l2, l3, l4⟩ := HI4.out; clear hb4))
  all_goals
    go_wp2_with (first
      | (go_at_call 12; refine (rright_any _ _ _ _ _ _).mono ?_; rintro e w5 ⟨rfl, hb5⟩; rw [HR.out]; have HB5 : Hid (Below w.heap.size w w5) := HB4.out.trans (hb5.mono HB4.out.size); have HI5 : Hid (InsAt w5 w.heap.size op a b c imm) := HI4.out.later hb5; obtain ⟨n0, n1, n2, n3, n4⟩ := HI5.out; clear hb5)
      | (go_at_call 13; refine (rput_any _ _ _ _ _ _ HR.out).mono ?_; rintro e w6 ⟨rfl, hb6⟩; have HB6 : Hid (Below w.heap.size w w6) := HB5.out.trans (hb6.mono HB5.out.size); clear hb6))
    go_ret
    exact ⟨rfl, HB6.out⟩
set_option maxHeartbeats 2000000 in
theorem walk_no (op a b c imm : Int) (w : World) (hT : Tab w) (hr : rightB op a b c imm = false) :
    Calls Tryd.prog 3 #[.agg (insV op a b c imm)] w fun e w' => e = .returned (.bool true) ∧ Below w.heap.size w w' := by
  have HT : Hid (Tab w) := hT
  clear hT
  unfold insV
  have HB0 : Hid (Below w.heap.size w (w.alloc (.cells #[.int .i64 op, .int .i64 a, .int .i64 b, .int .i64 c, .int .i64 imm] 23))) := (Below.refl _ _).alloc (Nat.le_refl _) _
  have HI0 : Hid (InsAt (w.alloc (.cells #[.int .i64 op, .int .i64 a, .int .i64 b, .int .i64 c, .int .i64 imm] 23)) w.heap.size op a b c imm) := InsAt.new w op a b c imm 23
  have HR : Hid (rightB op a b c imm = false) := hr
  clear hr
  go_enter Tryd.func3, Tryd.ntmps3
  go_wp2_with fail
  refine (put_not _ _ _ _ _ _ (HT.out.later HB0.out) HR.out).mono ?_
  rintro e w1 ⟨rfl, hb1⟩
  have HB1 : Hid (Below w.heap.size w w1) := HB0.out.trans (hb1.mono (by simp))
  have HI1 : Hid (InsAt w1 w.heap.size op a b c imm) := HI0.out.later hb1
  obtain ⟨f0, f1, f2, f3, f4⟩ := HI1.out
  clear hb1
  go_wp2_with fail
  go_region_with (first
    | (go_at_call 10; refine (awake_any _ ?_).mono ?_; exact HT.out.later HB1.out.drew; rintro e w2 ⟨rfl, hb2⟩; have HB2 : Hid (Below w.heap.size w w2) := HB1.out.drew.trans (hb2.mono HB1.out.size); have HI2 : Hid (InsAt w2 w.heap.size op a b c imm) := InsAt.later (w := w1.drew) HI1.out hb2; obtain ⟨g0, g1, g2, g3, g4⟩ := HI2.out; clear hb2)
    | (go_at_call 11; refine (right_any _ _ _ _ _ _ (HT.out.later HB2.out)).mono ?_; rintro e w3 ⟨rfl, hb3⟩; rw [HR.out]; have HB3 : Hid (Below w.heap.size w w3) := HB2.out.trans (hb3.mono HB2.out.size); have HI3 : Hid (InsAt w3 w.heap.size op a b c imm) := HI2.out.later hb3; obtain ⟨k0, k1, k2, k3, k4⟩ := HI3.out; clear hb3)
    | (go_at_call 12; refine (rright_any _ _ _ _ _ _).mono ?_; rintro e w4 ⟨rfl, hb4⟩; rw [HR.out]; have HB4 : Hid (Below w.heap.size w w4) := HB3.out.trans (hb4.mono HB3.out.size); have HI4 : Hid (InsAt w4 w.heap.size op a b c imm) := HI3.out.later hb4; obtain ⟨l0, l1, l2, l3, l4⟩ := HI4.out; clear hb4))
  all_goals
    go_wp2_with (go_at_call 12; refine (rright_any _ _ _ _ _ _).mono ?_; rintro e w5 ⟨rfl, hb5⟩; rw [HR.out]; have HB5 : Hid (Below w.heap.size w w5) := HB4.out.trans (hb5.mono HB4.out.size); clear hb5)
    go_ret
    exact ⟨rfl, HB5.out⟩
theorem walk (op a b c imm : Int) (hw : (Lit.int .i64 op).wf = true ∧ (Lit.int .i64 a).wf = true ∧ (Lit.int .i64 b).wf = true ∧ (Lit.int .i64 c).wf = true ∧ (Lit.int .i64 imm).wf = true) (w : World) (hT : Tab w) :
    Calls Tryd.prog 3 #[.agg (insV op a b c imm)] w fun e w' => e = .returned (.bool true) ∧ Below w.heap.size w w' := by
  cases hr : rightB op a b c imm
  · exact walk_no op a b c imm w hT hr
  · exact walk_yes op a b c imm w hT hr

/-! ### The row's step -/
set_option maxRecDepth 100000 in
theorem lifted (os : Os) (started : os.Started) (H : Type) (enc : TypeId × Value → H) :
    ReturnsInHanded {} Tryd.checked os 3 .any (fun w args => (Rows.codePutsSpec.pre enc Tryd.prog Tryd.f3 [] false w args ∧ laidMetH Tryd.prog laidL w) ∧ sizedMet enc Tryd.prog Tryd.f3 (OpenSpec.ofChange Rows.codePutsSpec) false w args)
      (Rows.codePutsSpec.post enc Tryd.prog Tryd.f3 false true false false) := by
  refine returnsInHanded_of_change_and (C := Tryd.checked) (X := fun w _ => laidMetH Tryd.prog laidL w) (fun _ _ _ hh h => h.of_heap hh) own started (by kernel_rfl) Tryd.func3
    (ChangeSpec.witness_shaped (enc := enc) (C := Tryd.checked) (os := os) (X := fun w _ => laidMetH Tryd.prog laidL w) false (World.doorLaid Tryd.prog 40 os) #[.agg #[.int .i64 0, .int .i64 0, .int .i64 0, .int .i64 0, .int .i64 0]] 8 rfl (World.shaped_of_RefB (by kernel_rfl) (by kernel_rfl)) (by kernel_rfl) (by kernel_rfl) (by kernel_rfl) (door_met os _)) ?_
  intro W base args ds gs before hval0 hW _ _ hL _
  have hval : ∀ (j : Nat) t v, Tryd.f3.params[j]? = some t → args[j]? = some v → Value.okWide Tryd.prog W .any base t v := hval0
  have hW' := hW
  obtain ⟨p, q, hA0, hV, rfl, hfz, hnd⟩ := hW
  have hA : DataW.TrodAll enc Tryd.prog W 0 (fun _ => true) true Tryd.f3.params.toList args.toList ds p := hA0
  rw [Tryd.params3] at hA hval
  obtain ⟨v0, vs0, d0, ds0, p0, q0, hargs, rfl, rfl, h0, r0⟩ := trodAll_cons hA
  obtain ⟨rfl, rfl, rfl⟩ := trodAll_nil r0
  obtain rfl : args = #[v0] := by cases args; simp_all
  obtain ⟨rfl, rfl⟩ := trodVars_none hV
  have hT := tab_of hL
  have k0 := h0
  have lt0 : ∀ x ∈ p0, x.block < W.heap.size := by obtain ⟨m, hm⟩ := k0; exact DataW.trod_lt m _ _ _ hm
  obtain ⟨o0, a0, b0, c0, m0, rfl, w0⟩ := open_ins (hval 0 23 v0 rfl rfl) h0
  clear hA0 hval0
  refine (walk o0 a0 b0 c0 m0 w0 W hT).mono fun e W' ⟨he, bel⟩ => ?_
  subst he
  exact ⟨_, rfl, _, _, _, [], _, [], hW', trodAll_mk1 (shut_bool Tryd.underlying4 _), (trodAll_cons_mk (Below.trod laidOut (by kernel_rfl) (of_decide_eq_true (by kernel_rfl)) k0 bel lt0) trodAll_mk0), rfl, bel.frame _, fun h => by cases h⟩

theorem over : Rows.CodePutsSaid :=
  OpenClaim.holds_of_wide 3 Tryd.f3 rfl rfl rfl rfl rfl rfl rfl ⟨rfl, rfl, rfl, rfl, rfl⟩ rfl rfl rfl rfl rfl (by kernel_rfl) Tryd.func3 (by kernel_rfl)
    (of_decide_eq_true (by kernel_rfl)) (by unfold Func.isWrapper; first | (rw [if_pos (by decide +kernel)]; kernel_rfl) | (rw [if_neg (by decide +kernel)]; exact ⟨rfl, rfl⟩))
    (fun os started H enc _ => lifted os started H enc)

/-- The tied card. -/
theorem card : Rows.CodePutsCardSaid :=
  Claim7.holds_tied_plain_at .later [] [.data] true (true, "c7c58821a59dc2a96b18077de35e0cd15e8cbe4c0613160f2601e06160b0d7f5") false
    over (fun _ h => by cases h) (by kernel_rfl) (fun _ h => by cases h) codePuts_row_tie rfl ⟨rfl, rfl⟩ (by kernel_rfl) rfl
    (fun f fn hf hfn => by
      obtain rfl : f = 3 := Option.some.inj ((show Tryd.prog.funcNamed "splice/splicelaw02.CodePuts" = some 3 by kernel_rfl).symm.trans hf) |>.symm
      obtain rfl : fn = Tryd.f3 := (Option.some.inj (Tryd.func3.symm.trans hfn)).symm
      exact ⟨by kernel_rfl, fun j t ht => by
        rw [Tryd.params3] at ht
        have hm : t ∈ [23] := by simpa using Array.mem_of_getElem? ht
        have hall : ([23].all fun u => !Tryd.prog.wantsStandIn u) = true := by kernel_rfl
        exact (show Tryd.prog.wantsStandIn t = false by simpa using List.all_eq_true.1 hall t hm)⟩)
    (by kernel_rfl)
end Go.Proofs.YtidfdhghgjdihaaDoor.codePuts

namespace Go.Proofs.YtidfdhghgjdihaaDoor
theorem CodePuts_holds : Rows.CodePutsCardSaid := codePuts.card
#print axioms CodePuts_holds
end Go.Proofs.YtidfdhghgjdihaaDoor
