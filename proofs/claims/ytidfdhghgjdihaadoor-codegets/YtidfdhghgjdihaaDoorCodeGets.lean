/- For every word CodeGets returns true: Get answers what the document's own answer says. The package variable shapes holds what the program's text lays there. -/
import Derived.Test.YtidfdhghgjdihaaDoorCodeFrame
import Derived.WalkKit
import Derived.ProofKit
namespace Go.Proofs.YtidfdhghgjdihaaDoor.codeGets
open Go.ChangeShapes Go.WideShapes Go.ChangeAt Go.RowKit Go.Deep
set_option linter.unusedVariables false

set_option maxHeartbeats 1000000 in
theorem walk_yes (x : Int) (o a b c i : Int) (w : World) (hT : Tab w)
    (hG : ∀ wx, Tab wx → Calls Tryd.prog 14 #[.int .u32 x] wx fun e w' => e = .returned (.tuple #[.agg #[.int .i64 o, .int .i64 a, .int .i64 b, .int .i64 c, .int .i64 i], .int .i64 0]) ∧ Below wx.heap.size wx w')
    (hR : ∀ wx, Calls Tryd.prog 15 #[.int .u32 x] wx fun e w' => e = .returned (.tuple #[.agg #[.int .i64 o, .int .i64 a, .int .i64 b, .int .i64 c, .int .i64 i], .bool true]) ∧ Below wx.heap.size wx w') :
    Calls Tryd.prog 4 #[.int .u32 x] w fun e w' => e = .returned (.bool true) ∧ Below w.heap.size w w' := by
  have HT : Hid (Tab w) := hT
  have HG : Hid (∀ wx, Tab wx → Calls Tryd.prog 14 #[.int .u32 x] wx fun e w' => e = .returned (.tuple #[.agg #[.int .i64 o, .int .i64 a, .int .i64 b, .int .i64 c, .int .i64 i], .int .i64 0]) ∧ Below wx.heap.size wx w') := hG
  have HR : Hid (∀ wx, Calls Tryd.prog 15 #[.int .u32 x] wx fun e w' => e = .returned (.tuple #[.agg #[.int .i64 o, .int .i64 a, .int .i64 b, .int .i64 c, .int .i64 i], .bool true]) ∧ Below wx.heap.size wx w') := hR
  have heq := fun w => run_eql_ins w o a b c i o a b c i
  simp only [insV] at heq
  clear hT hG hR
  go_enter Tryd.func4, Tryd.ntmps4
  go_wp2_with fail
  refine Calls.mono (HG.out _ HT.out) ?_
  rintro e w1 ⟨rfl, hb1⟩
  have HB1 : Hid (Below w.heap.size w w1) := hb1
  clear hb1
  go_wp2_with fail
  refine Calls.mono (HR.out _) ?_
  rintro e w2 ⟨rfl, hb2⟩
  have HI2 : Hid (InsAt w2 w1.heap.size o a b c i) := InsAt.later (InsAt.new w1 o a b c i 23) hb2
  have HB2 : Hid (Below w.heap.size w w2) := (HB1.out.alloc HB1.out.size _).trans (hb2.mono (by have := HB1.out.size; simp; omega))
  have hs2 : w1.heap.size < w2.heap.size := by have := hb2.size; simp at this; omega
  clear hb2
  go_wp2_with fail
  refine (awake_any _ ?_).mono ?_
  · exact HT.out.later (HB2.out.alloc HB2.out.size _)
  rintro e w3 ⟨rfl, hb3⟩
  have HJ3 : Hid (InsAt w3 w2.heap.size o a b c i) := InsAt.later (InsAt.new w2 o a b c i 23) hb3
  have HI3 : Hid (InsAt w3 w1.heap.size o a b c i) := InsAt.later (InsAt.later HI2.out ((Below.refl _ _).alloc (Nat.le_refl _) _)) hb3
  have HB3 : Hid (Below w.heap.size w w3) := (HB2.out.alloc HB2.out.size _).trans (hb3.mono (by have := HB2.out.size; simp; omega))
  obtain ⟨f0, f1, f2, f3, f4⟩ := HI3.out
  obtain ⟨g0, g1, g2, g3, g4⟩ := HJ3.out
  clear hb3
  go_wp2
  go_ret
  exact ⟨rfl, HB3.out⟩
set_option maxHeartbeats 1000000 in
theorem walk_no (x : Int) (w : World) (hT : Tab w)
    (hG : ∀ wx, Tab wx → Calls Tryd.prog 14 #[.int .u32 x] wx fun e w' => e = .returned (.tuple #[.agg #[.int .i64 0, .int .i64 0, .int .i64 0, .int .i64 0, .int .i64 0], .int .i64 3]) ∧ Below wx.heap.size wx w')
    (hR : ∀ wx, Calls Tryd.prog 15 #[.int .u32 x] wx fun e w' => e = .returned (.tuple #[.agg #[.int .i64 0, .int .i64 0, .int .i64 0, .int .i64 0, .int .i64 0], .bool false]) ∧ Below wx.heap.size wx w') :
    Calls Tryd.prog 4 #[.int .u32 x] w fun e w' => e = .returned (.bool true) ∧ Below w.heap.size w w' := by
  have HT : Hid (Tab w) := hT
  have HG : Hid (∀ wx, Tab wx → Calls Tryd.prog 14 #[.int .u32 x] wx fun e w' => e = .returned (.tuple #[.agg #[.int .i64 0, .int .i64 0, .int .i64 0, .int .i64 0, .int .i64 0], .int .i64 3]) ∧ Below wx.heap.size wx w') := hG
  have HR : Hid (∀ wx, Calls Tryd.prog 15 #[.int .u32 x] wx fun e w' => e = .returned (.tuple #[.agg #[.int .i64 0, .int .i64 0, .int .i64 0, .int .i64 0, .int .i64 0], .bool false]) ∧ Below wx.heap.size wx w') := hR
  have heq := fun w => run_eql_ins w 0 0 0 0 0 0 0 0 0 0
  simp only [insV] at heq
  clear hT hG hR
  go_enter Tryd.func4, Tryd.ntmps4
  go_wp2_with fail
  refine Calls.mono (HG.out _ HT.out) ?_
  rintro e w1 ⟨rfl, hb1⟩
  have HB1 : Hid (Below w.heap.size w w1) := hb1
  clear hb1
  go_wp2_with fail
  refine Calls.mono (HR.out _) ?_
  rintro e w2 ⟨rfl, hb2⟩
  have HI2 : Hid (InsAt w2 w1.heap.size 0 0 0 0 0) := InsAt.later (InsAt.new w1 0 0 0 0 0 23) hb2
  have HB2 : Hid (Below w.heap.size w w2) := (HB1.out.alloc HB1.out.size _).trans (hb2.mono (by have := HB1.out.size; simp; omega))
  have hs2 : w1.heap.size < w2.heap.size := by have := hb2.size; simp at this; omega
  clear hb2
  go_wp2_with fail
  refine (awake_any _ ?_).mono ?_
  · exact HT.out.later (HB2.out.alloc HB2.out.size _)
  rintro e w3 ⟨rfl, hb3⟩
  have HJ3 : Hid (InsAt w3 w2.heap.size 0 0 0 0 0) := InsAt.later (InsAt.new w2 0 0 0 0 0 23) hb3
  have HI3 : Hid (InsAt w3 w1.heap.size 0 0 0 0 0) := InsAt.later (InsAt.later HI2.out ((Below.refl _ _).alloc (Nat.le_refl _) _)) hb3
  have HB3 : Hid (Below w.heap.size w w3) := (HB2.out.alloc HB2.out.size _).trans (hb3.mono (by have := HB2.out.size; simp; omega))
  obtain ⟨f0, f1, f2, f3, f4⟩ := HI3.out
  obtain ⟨g0, g1, g2, g3, g4⟩ := HJ3.out
  clear hb3
  go_wp2
  go_ret
  exact ⟨rfl, HB3.out⟩
theorem walk (x : Int) (hw : (Lit.int .u32 x).wf = true) (w : World) (hT : Tab w) :
    Calls Tryd.prog 4 #[.int .u32 x] w fun e w' => e = .returned (.bool true) ∧ Below w.heap.size w w' := by
  have hx : 0 ≤ x ∧ x < 4294967296 := by
    simp [Lit.wf, IntKind.min, IntKind.max, IntKind.signed, IntKind.bits] at hw; omega
  have hG := fun wx hx' => get_all x wx hx.1 hx.2 hx'
  have hR := fun wx => rget_all x wx hx.1 hx.2
  unfold rgetV at hR
  by_cases g : okG x = true
  · simp only [if_pos g] at hG hR
    exact walk_yes x _ _ _ _ _ w hT hG hR
  · simp only [if_neg g] at hG hR
    exact walk_no x w hT hG hR

/-! ### The row's step -/
set_option maxRecDepth 100000 in
theorem lifted (os : Os) (started : os.Started) (H : Type) (enc : TypeId × Value → H) :
    ReturnsInHanded {} Tryd.checked os 4 .any (fun w args => (Rows.codeGetsSpec.pre enc Tryd.prog Tryd.f4 [] false w args ∧ laidMetH Tryd.prog laidL w) ∧ sizedMet enc Tryd.prog Tryd.f4 (OpenSpec.ofChange Rows.codeGetsSpec) false w args)
      (Rows.codeGetsSpec.post enc Tryd.prog Tryd.f4 false true false false) := by
  refine returnsInHanded_of_change_and (C := Tryd.checked) (X := fun w _ => laidMetH Tryd.prog laidL w) (fun _ _ _ hh h => h.of_heap hh) own started (by kernel_rfl) Tryd.func4
    (ChangeSpec.witness_shaped (enc := enc) (C := Tryd.checked) (os := os) (X := fun w _ => laidMetH Tryd.prog laidL w) false (World.doorLaid Tryd.prog 40 os) #[.int .u32 0] 8 rfl (World.shaped_of_RefB (by kernel_rfl) (by kernel_rfl)) (by kernel_rfl) (by kernel_rfl) (by kernel_rfl) (door_met os _)) ?_
  intro W base args ds gs before hval0 hW _ _ hL _
  have hval : ∀ (j : Nat) t v, Tryd.f4.params[j]? = some t → args[j]? = some v → Value.okWide Tryd.prog W .any base t v := hval0
  have hW' := hW
  obtain ⟨p, q, hA0, hV, rfl, hfz, hnd⟩ := hW
  have hA : DataW.TrodAll enc Tryd.prog W 0 (fun _ => true) true Tryd.f4.params.toList args.toList ds p := hA0
  rw [Tryd.params4] at hA hval
  obtain ⟨v0, vs0, d0, ds0, p0, q0, hargs, rfl, rfl, h0, r0⟩ := trodAll_cons hA
  obtain ⟨rfl, rfl, rfl⟩ := trodAll_nil r0
  obtain rfl : args = #[v0] := by cases args; simp_all
  obtain ⟨rfl, rfl⟩ := trodVars_none hV
  have hT := tab_of hL
  obtain ⟨a0, rfl, rfl, rfl, w0⟩ := open_int Tryd.underlying24 (hval 0 24 v0 rfl rfl) h0
  clear hA0 hval0
  refine (walk a0 w0 W hT).mono fun e W' ⟨he, bel⟩ => ?_
  subst he
  exact ⟨_, rfl, _, _, _, [], _, [], hW', trodAll_mk1 (shut_bool Tryd.underlying4 _), (trodAll_cons_mk (shut_int Tryd.underlying24 w0) trodAll_mk0), rfl, bel.frame _, fun h => by cases h⟩

theorem over : Rows.CodeGetsSaid :=
  OpenClaim.holds_of_wide 4 Tryd.f4 rfl rfl rfl rfl rfl rfl rfl ⟨rfl, rfl, rfl, rfl, rfl⟩ rfl rfl rfl rfl rfl (by kernel_rfl) Tryd.func4 (by kernel_rfl)
    (of_decide_eq_true (by kernel_rfl)) (by unfold Func.isWrapper; first | (rw [if_pos (by decide +kernel)]; kernel_rfl) | (rw [if_neg (by decide +kernel)]; exact ⟨rfl, rfl⟩))
    (fun os started H enc _ => lifted os started H enc)

/-- The tied card. -/
theorem card : Rows.CodeGetsCardSaid :=
  Claim7.holds_tied_plain_at .later [] [.data] true (true, "c7c58821a59dc2a96b18077de35e0cd15e8cbe4c0613160f2601e06160b0d7f5") false
    over (fun _ h => by cases h) (by kernel_rfl) (fun _ h => by cases h) codeGets_row_tie rfl ⟨rfl, rfl⟩ (by kernel_rfl) rfl
    (fun f fn hf hfn => by
      obtain rfl : f = 4 := Option.some.inj ((show Tryd.prog.funcNamed "splice/splicelaw02.CodeGets" = some 4 by kernel_rfl).symm.trans hf) |>.symm
      obtain rfl : fn = Tryd.f4 := (Option.some.inj (Tryd.func4.symm.trans hfn)).symm
      exact ⟨by kernel_rfl, fun j t ht => by
        rw [Tryd.params4] at ht
        have hm : t ∈ [24] := by simpa using Array.mem_of_getElem? ht
        have hall : ([24].all fun u => !Tryd.prog.wantsStandIn u) = true := by kernel_rfl
        exact (show Tryd.prog.wantsStandIn t = false by simpa using List.all_eq_true.1 hall t hm)⟩)
    (by kernel_rfl)
end Go.Proofs.YtidfdhghgjdihaaDoor.codeGets

namespace Go.Proofs.YtidfdhghgjdihaaDoor
theorem CodeGets_holds : Rows.CodeGetsCardSaid := codeGets.card
#print axioms CodeGets_holds
end Go.Proofs.YtidfdhghgjdihaaDoor
