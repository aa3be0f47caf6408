/- For every instruction and every word CodeBack returns true: what is written is read as it was, what is read is written as it stood. The package variable shapes holds what the program's text lays there. -/
import Derived.Test.YtidfdhghgjdihaaDoorCodeFrame
import Derived.Test.YtidfdhghgjdihaaDoorCodePG
import Derived.WalkKit
import Derived.ProofKit
namespace Go.Proofs.YtidfdhghgjdihaaDoor.codeBack
open Go.ChangeShapes Go.WideShapes Go.ChangeAt Go.RowKit Go.Deep
set_option linter.unusedVariables false

theorem hid {p : Prop} (h : p) : Hid p := h
set_option maxHeartbeats 2000000 in
theorem walk_yes_yes (op a b c m x pz o p q r s : Int) (w : World) (hT : Tab w)
    (hP : ∀ wx, Tab wx → Calls Tryd.prog 9 #[.agg #[.int .i64 op, .int .i64 a, .int .i64 b, .int .i64 c, .int .i64 m]] wx fun e w' => e = .returned (.tuple #[.int .u32 pz, .int .i64 0]) ∧ Below wx.heap.size wx w')
    (hB : ∀ wx, Tab wx → Calls Tryd.prog 14 #[.int .u32 pz] wx fun e w' => e = .returned (.tuple #[.agg #[.int .i64 op, .int .i64 a, .int .i64 b, .int .i64 c, .int .i64 m], .int .i64 0]) ∧ Below wx.heap.size wx w')
    (hop : pz / 16777216 = op) (hp0 : 0 ≤ pz) (hp1 : pz < 4294967296)
    (hG : ∀ wx, Tab wx → Calls Tryd.prog 14 #[.int .u32 x] wx fun e w' => e = .returned (.tuple #[.agg #[.int .i64 o, .int .i64 p, .int .i64 q, .int .i64 r, .int .i64 s], .int .i64 0]) ∧ Below wx.heap.size wx w')
    (hQ : ∀ wx, Tab wx → Calls Tryd.prog 9 #[.agg #[.int .i64 o, .int .i64 p, .int .i64 q, .int .i64 r, .int .i64 s]] wx fun e w' => e = .returned (.tuple #[.int .u32 x, .int .i64 0]) ∧ Below wx.heap.size wx w')
    (hS : ∀ wx, Tab wx → Calls Tryd.prog 11 #[.agg #[.int .i64 o, .int .i64 p, .int .i64 q, .int .i64 r, .int .i64 s]] wx fun e w' => e = .returned (.bool true) ∧ Below wx.heap.size wx w') :
    Calls Tryd.prog 6 #[.agg (insV op a b c m), .int .u32 x] w fun e w' => e = .returned (.bool true) ∧ Below w.heap.size w w' := by
  unfold insV
  have HT : Hid (Tab w) := hT
  have HP := hid hP
  have HBk := hid hB
  have HO : Hid (pz / 16777216 = op) := hop
  have HG := hid hG
  have HQ := hid hQ
  have HS := hid hS
  clear hT hP hG hB hop hQ hS
  have hne := fun w => run_neq_ins w op a b c m op a b c m
  simp only [insV, beq_self_eq_true, Bool.and_self, Bool.not_true] at hne
  have HB0 : Hid (Below w.heap.size w (w.alloc (.cells #[.int .i64 op, .int .i64 a, .int .i64 b, .int .i64 c, .int .i64 m] 23))) := (Below.refl _ _).alloc (Nat.le_refl _) _
  have HI0 : Hid (InsAt (w.alloc (.cells #[.int .i64 op, .int .i64 a, .int .i64 b, .int .i64 c, .int .i64 m] 23)) w.heap.size op a b c m) := InsAt.new w op a b c m 23
  go_enter Tryd.func6, Tryd.ntmps6
  go_wp2_with fail
  refine Calls.mono (HP.out _ (HT.out.later HB0.out)) ?_
  rintro e w1 ⟨rfl, hb1⟩
  have HB1 : Hid (Below w.heap.size w w1) := HB0.out.trans (hb1.mono (by simp))
  have HI1 : Hid (InsAt w1 w.heap.size op a b c m) := HI0.out.later hb1
  clear hb1
  go_wp2_with fail
  refine (awake_any _ (HT.out.later HB1.out)).mono ?_
  rintro e w2 ⟨rfl, hb2⟩
  have HB2 : Hid (Below w.heap.size w w2) := HB1.out.trans (hb2.mono HB1.out.size)
  have HI2 : Hid (InsAt w2 w.heap.size op a b c m) := HI1.out.later hb2
  clear hb2
  go_wp2_with fail
  refine Calls.mono (HBk.out _ (HT.out.later HB2.out)) ?_
  rintro e w3 ⟨rfl, hb3⟩
  have HB3 : Hid (Below w.heap.size w w3) := HB2.out.trans (hb3.mono HB2.out.size)
  have HI3 : Hid (InsAt w3 w.heap.size op a b c m) := HI2.out.later hb3
  have hs3 : w.heap.size < w3.heap.size := World.block_lt_of_cell? _ _ HI3.out.1
  obtain ⟨f0, f1, f2, f3, f4⟩ := HI3.out
  clear hb3
  rw [← HO.out] at *
  go_wp2_with fail
  have HBc : Hid (Below w.heap.size w (w3.alloc (.cells #[.int .i64 (pz / 16777216), .int .i64 a, .int .i64 b, .int .i64 c, .int .i64 m] 23))) := HB3.out.alloc HB3.out.size _
  refine Calls.mono (HG.out _ (HT.out.later HBc.out)) ?_
  rintro e w4 ⟨rfl, hb4⟩
  have HB4 : Hid (Below w.heap.size w w4) := HBc.out.trans (hb4.mono HBc.out.size)
  clear hb4
  have HI5 : Hid (InsAt (w4.alloc (.cells #[.int .i64 o, .int .i64 p, .int .i64 q, .int .i64 r, .int .i64 s] 23)) w4.heap.size o p q r s) := InsAt.new w4 o p q r s 23
  have HB5 : Hid (Below w.heap.size w (w4.alloc (.cells #[.int .i64 o, .int .i64 p, .int .i64 q, .int .i64 r, .int .i64 s] 23))) := HB4.out.alloc HB4.out.size _
  go_wp2_with fail
  refine Calls.mono (HQ.out _ (HT.out.later HB5.out)) ?_
  rintro e w6 ⟨rfl, hb6⟩
  have HB6 : Hid (Below w.heap.size w w6) := HB5.out.trans (hb6.mono HB5.out.size)
  have HI6 : Hid (InsAt w6 w4.heap.size o p q r s) := HI5.out.later hb6
  obtain ⟨g0, g1, g2, g3, g4⟩ := HI6.out
  clear hb6
  go_wp2_with fail
  refine Calls.mono (HS.out _ (HT.out.later HB6.out)) ?_
  rintro e w7 ⟨rfl, hb7⟩
  have HB7 : Hid (Below w.heap.size w w7) := HB6.out.trans (hb7.mono HB6.out.size)
  clear hb7
  go_wp2
  go_ret
  exact ⟨rfl, HB7.out⟩
set_option maxHeartbeats 2000000 in
theorem walk_yes_no (op a b c m x pz : Int) (w : World) (hT : Tab w)
    (hP : ∀ wx, Tab wx → Calls Tryd.prog 9 #[.agg #[.int .i64 op, .int .i64 a, .int .i64 b, .int .i64 c, .int .i64 m]] wx fun e w' => e = .returned (.tuple #[.int .u32 pz, .int .i64 0]) ∧ Below wx.heap.size wx w')
    (hB : ∀ wx, Tab wx → Calls Tryd.prog 14 #[.int .u32 pz] wx fun e w' => e = .returned (.tuple #[.agg #[.int .i64 op, .int .i64 a, .int .i64 b, .int .i64 c, .int .i64 m], .int .i64 0]) ∧ Below wx.heap.size wx w')
    (hop : pz / 16777216 = op) (hp0 : 0 ≤ pz) (hp1 : pz < 4294967296)
    (hG : ∀ wx, Tab wx → Calls Tryd.prog 14 #[.int .u32 x] wx fun e w' => e = .returned (.tuple #[.agg #[.int .i64 0, .int .i64 0, .int .i64 0, .int .i64 0, .int .i64 0], .int .i64 3]) ∧ Below wx.heap.size wx w') :
    Calls Tryd.prog 6 #[.agg (insV op a b c m), .int .u32 x] w fun e w' => e = .returned (.bool true) ∧ Below w.heap.size w w' := by
  unfold insV
  have HT : Hid (Tab w) := hT
  have HP := hid hP
  have HBk := hid hB
  have HO : Hid (pz / 16777216 = op) := hop
  have HG := hid hG
  clear hT hP hG hB hop
  have hne := fun w => run_neq_ins w op a b c m op a b c m
  simp only [insV, beq_self_eq_true, Bool.and_self, Bool.not_true] at hne
  have heq := fun w => run_eql_ins w 0 0 0 0 0 0 0 0 0 0
  simp only [insV] at heq
  have HB0 : Hid (Below w.heap.size w (w.alloc (.cells #[.int .i64 op, .int .i64 a, .int .i64 b, .int .i64 c, .int .i64 m] 23))) := (Below.refl _ _).alloc (Nat.le_refl _) _
  have HI0 : Hid (InsAt (w.alloc (.cells #[.int .i64 op, .int .i64 a, .int .i64 b, .int .i64 c, .int .i64 m] 23)) w.heap.size op a b c m) := InsAt.new w op a b c m 23
  go_enter Tryd.func6, Tryd.ntmps6
  go_wp2_with fail
  refine Calls.mono (HP.out _ (HT.out.later HB0.out)) ?_
  rintro e w1 ⟨rfl, hb1⟩
  have HB1 : Hid (Below w.heap.size w w1) := HB0.out.trans (hb1.mono (by simp))
  have HI1 : Hid (InsAt w1 w.heap.size op a b c m) := HI0.out.later hb1
  clear hb1
  go_wp2_with fail
  refine (awake_any _ (HT.out.later HB1.out)).mono ?_
  rintro e w2 ⟨rfl, hb2⟩
  have HB2 : Hid (Below w.heap.size w w2) := HB1.out.trans (hb2.mono HB1.out.size)
  have HI2 : Hid (InsAt w2 w.heap.size op a b c m) := HI1.out.later hb2
  clear hb2
  go_wp2_with fail
  refine Calls.mono (HBk.out _ (HT.out.later HB2.out)) ?_
  rintro e w3 ⟨rfl, hb3⟩
  have HB3 : Hid (Below w.heap.size w w3) := HB2.out.trans (hb3.mono HB2.out.size)
  have HI3 : Hid (InsAt w3 w.heap.size op a b c m) := HI2.out.later hb3
  have hs3 : w.heap.size < w3.heap.size := World.block_lt_of_cell? _ _ HI3.out.1
  obtain ⟨f0, f1, f2, f3, f4⟩ := HI3.out
  clear hb3
  rw [← HO.out] at *
  go_wp2_with fail
  have HBc : Hid (Below w.heap.size w (w3.alloc (.cells #[.int .i64 (pz / 16777216), .int .i64 a, .int .i64 b, .int .i64 c, .int .i64 m] 23))) := HB3.out.alloc HB3.out.size _
  refine Calls.mono (HG.out _ (HT.out.later HBc.out)) ?_
  rintro e w4 ⟨rfl, hb4⟩
  have HB4 : Hid (Below w.heap.size w w4) := HBc.out.trans (hb4.mono HBc.out.size)
  clear hb4
  go_wp2
  go_ret
  exact ⟨rfl, HB4.out.alloc HB4.out.size _⟩
set_option maxHeartbeats 2000000 in
theorem walk_no_yes (op a b c m x o p q r s : Int) (w : World) (hT : Tab w)
    (hP : ∀ wx, Tab wx → Calls Tryd.prog 9 #[.agg #[.int .i64 op, .int .i64 a, .int .i64 b, .int .i64 c, .int .i64 m]] wx fun e w' => e = .returned (.tuple #[.int .u32 0, .int .i64 3]) ∧ Below wx.heap.size wx w')
    (hG : ∀ wx, Tab wx → Calls Tryd.prog 14 #[.int .u32 x] wx fun e w' => e = .returned (.tuple #[.agg #[.int .i64 o, .int .i64 p, .int .i64 q, .int .i64 r, .int .i64 s], .int .i64 0]) ∧ Below wx.heap.size wx w')
    (hQ : ∀ wx, Tab wx → Calls Tryd.prog 9 #[.agg #[.int .i64 o, .int .i64 p, .int .i64 q, .int .i64 r, .int .i64 s]] wx fun e w' => e = .returned (.tuple #[.int .u32 x, .int .i64 0]) ∧ Below wx.heap.size wx w')
    (hS : ∀ wx, Tab wx → Calls Tryd.prog 11 #[.agg #[.int .i64 o, .int .i64 p, .int .i64 q, .int .i64 r, .int .i64 s]] wx fun e w' => e = .returned (.bool true) ∧ Below wx.heap.size wx w') :
    Calls Tryd.prog 6 #[.agg (insV op a b c m), .int .u32 x] w fun e w' => e = .returned (.bool true) ∧ Below w.heap.size w w' := by
  unfold insV
  have HT : Hid (Tab w) := hT
  have HP := hid hP
  have HG := hid hG
  have HQ := hid hQ
  have HS := hid hS
  clear hT hP hG hQ hS
  have HB0 : Hid (Below w.heap.size w (w.alloc (.cells #[.int .i64 op, .int .i64 a, .int .i64 b, .int .i64 c, .int .i64 m] 23))) := (Below.refl _ _).alloc (Nat.le_refl _) _
  have HI0 : Hid (InsAt (w.alloc (.cells #[.int .i64 op, .int .i64 a, .int .i64 b, .int .i64 c, .int .i64 m] 23)) w.heap.size op a b c m) := InsAt.new w op a b c m 23
  go_enter Tryd.func6, Tryd.ntmps6
  go_wp2_with fail
  refine Calls.mono (HP.out _ (HT.out.later HB0.out)) ?_
  rintro e w1 ⟨rfl, hb1⟩
  have HB1 : Hid (Below w.heap.size w w1) := HB0.out.trans (hb1.mono (by simp))
  have HI1 : Hid (InsAt w1 w.heap.size op a b c m) := HI0.out.later hb1
  clear hb1
  go_wp2_with fail
  refine (awake_any _ (HT.out.later HB1.out)).mono ?_
  rintro e w2 ⟨rfl, hb2⟩
  have HB2 : Hid (Below w.heap.size w w2) := HB1.out.trans (hb2.mono HB1.out.size)
  have HI2 : Hid (InsAt w2 w.heap.size op a b c m) := HI1.out.later hb2
  clear hb2
  go_wp2_with fail
  refine Calls.mono (HG.out _ (HT.out.later HB2.out)) ?_
  rintro e w4 ⟨rfl, hb4⟩
  have HB4 : Hid (Below w.heap.size w w4) := HB2.out.trans (hb4.mono HB2.out.size)
  clear hb4
  have HI5 : Hid (InsAt (w4.alloc (.cells #[.int .i64 o, .int .i64 p, .int .i64 q, .int .i64 r, .int .i64 s] 23)) w4.heap.size o p q r s) := InsAt.new w4 o p q r s 23
  have HB5 : Hid (Below w.heap.size w (w4.alloc (.cells #[.int .i64 o, .int .i64 p, .int .i64 q, .int .i64 r, .int .i64 s] 23))) := HB4.out.alloc HB4.out.size _
  go_wp2_with fail
  refine Calls.mono (HQ.out _ (HT.out.later HB5.out)) ?_
  rintro e w6 ⟨rfl, hb6⟩
  have HB6 : Hid (Below w.heap.size w w6) := HB5.out.trans (hb6.mono HB5.out.size)
  have HI6 : Hid (InsAt w6 w4.heap.size o p q r s) := HI5.out.later hb6
  obtain ⟨g0, g1, g2, g3, g4⟩ := HI6.out
  clear hb6
  go_wp2_with fail
  refine Calls.mono (HS.out _ (HT.out.later HB6.out)) ?_
  rintro e w7 ⟨rfl, hb7⟩
  have HB7 : Hid (Below w.heap.size w w7) := HB6.out.trans (hb7.mono HB6.out.size)
  clear hb7
  go_wp2
  go_ret
  exact ⟨rfl, HB7.out⟩
set_option maxHeartbeats 2000000 in
theorem walk_no_no (op a b c m x : Int) (w : World) (hT : Tab w)
    (hP : ∀ wx, Tab wx → Calls Tryd.prog 9 #[.agg #[.int .i64 op, .int .i64 a, .int .i64 b, .int .i64 c, .int .i64 m]] wx fun e w' => e = .returned (.tuple #[.int .u32 0, .int .i64 3]) ∧ Below wx.heap.size wx w')
    (hG : ∀ wx, Tab wx → Calls Tryd.prog 14 #[.int .u32 x] wx fun e w' => e = .returned (.tuple #[.agg #[.int .i64 0, .int .i64 0, .int .i64 0, .int .i64 0, .int .i64 0], .int .i64 3]) ∧ Below wx.heap.size wx w') :
    Calls Tryd.prog 6 #[.agg (insV op a b c m), .int .u32 x] w fun e w' => e = .returned (.bool true) ∧ Below w.heap.size w w' := by
  unfold insV
  have HT : Hid (Tab w) := hT
  have HP := hid hP
  have HG := hid hG
  clear hT hP hG
  have heq := fun w => run_eql_ins w 0 0 0 0 0 0 0 0 0 0
  simp only [insV] at heq
  have HB0 : Hid (Below w.heap.size w (w.alloc (.cells #[.int .i64 op, .int .i64 a, .int .i64 b, .int .i64 c, .int .i64 m] 23))) := (Below.refl _ _).alloc (Nat.le_refl _) _
  have HI0 : Hid (InsAt (w.alloc (.cells #[.int .i64 op, .int .i64 a, .int .i64 b, .int .i64 c, .int .i64 m] 23)) w.heap.size op a b c m) := InsAt.new w op a b c m 23
  go_enter Tryd.func6, Tryd.ntmps6
  go_wp2_with fail
  refine Calls.mono (HP.out _ (HT.out.later HB0.out)) ?_
  rintro e w1 ⟨rfl, hb1⟩
  have HB1 : Hid (Below w.heap.size w w1) := HB0.out.trans (hb1.mono (by simp))
  have HI1 : Hid (InsAt w1 w.heap.size op a b c m) := HI0.out.later hb1
  clear hb1
  go_wp2_with fail
  refine (awake_any _ (HT.out.later HB1.out)).mono ?_
  rintro e w2 ⟨rfl, hb2⟩
  have HB2 : Hid (Below w.heap.size w w2) := HB1.out.trans (hb2.mono HB1.out.size)
  have HI2 : Hid (InsAt w2 w.heap.size op a b c m) := HI1.out.later hb2
  clear hb2
  go_wp2_with fail
  refine Calls.mono (HG.out _ (HT.out.later HB2.out)) ?_
  rintro e w4 ⟨rfl, hb4⟩
  have HB4 : Hid (Below w.heap.size w w4) := HB2.out.trans (hb4.mono HB2.out.size)
  clear hb4
  go_wp2
  go_ret
  exact ⟨rfl, HB4.out.alloc HB4.out.size _⟩
theorem walk (op a b c m : Int) (hw : (Lit.int .i64 op).wf = true ∧ (Lit.int .i64 a).wf = true ∧ (Lit.int .i64 b).wf = true ∧ (Lit.int .i64 c).wf = true ∧ (Lit.int .i64 m).wf = true) (x : Int) (hx : (Lit.int .u32 x).wf = true) (w : World) (hT : Tab w) :
    Calls Tryd.prog 6 #[.agg (insV op a b c m), .int .u32 x] w fun e w' => e = .returned (.bool true) ∧ Below w.heap.size w w' := by
  have hxb : 0 ≤ x ∧ x < 4294967296 := by
    simp [Lit.wf, IntKind.min, IntKind.max, IntKind.signed, IntKind.bits] at hx; omega
  have hG := fun wx hx' => get_all x wx hxb.1 hxb.2 hx'
  cases hr : rightB op a b c m
  · have hP := fun wx hx' => put_not op a b c m wx hx' hr
    by_cases g : okG x = true
    · obtain ⟨g1, g2⟩ := ok_put x g
      simp only [if_pos g] at hG
      exact walk_no_yes op a b c m x _ _ _ _ _ w hT hP hG (fun wx hx' => by have := put_yes _ _ _ _ _ wx hx' g1; rw [g2] at this; exact this) (fun wx hx' => by have := right_any (gO x) (gA x) (gB x) (gC x) (gI x) wx hx'; rw [g1] at this; exact this)
    · simp only [if_neg g] at hG
      exact walk_no_no op a b c m x w hT hP hG
  · obtain ⟨⟨p0, p1⟩, e0, e1, e2, e3, e4⟩ := put_fields op a b c m hr
    have hP := fun wx hx' => put_yes op a b c m wx hx' hr
    have hB := fun wx hx' => get_all (putZ op a b c m) wx p0 p1 hx'
    simp only [if_pos (put_ok op a b c m hr)] at hB
    rw [e0, e1, e2, e3, e4] at hB
    by_cases g : okG x = true
    · obtain ⟨g1, g2⟩ := ok_put x g
      simp only [if_pos g] at hG
      exact walk_yes_yes op a b c m x _ _ _ _ _ _ w hT hP hB e0 p0 p1 hG (fun wx hx' => by have := put_yes _ _ _ _ _ wx hx' g1; rw [g2] at this; exact this) (fun wx hx' => by have := right_any (gO x) (gA x) (gB x) (gC x) (gI x) wx hx'; rw [g1] at this; exact this)
    · simp only [if_neg g] at hG
      exact walk_yes_no op a b c m x _ w hT hP hB e0 p0 p1 hG

/-! ### The row's step -/
set_option maxRecDepth 100000 in
theorem lifted (os : Os) (started : os.Started) (H : Type) (enc : TypeId × Value → H) :
    ReturnsInHanded {} Tryd.checked os 6 .any (fun w args => (Rows.codeBackSpec.pre enc Tryd.prog Tryd.f6 [] false w args ∧ laidMetH Tryd.prog laidL w) ∧ sizedMet enc Tryd.prog Tryd.f6 (OpenSpec.ofChange Rows.codeBackSpec) false w args)
      (Rows.codeBackSpec.post enc Tryd.prog Tryd.f6 false true false false) := by
  refine returnsInHanded_of_change_and (C := Tryd.checked) (X := fun w _ => laidMetH Tryd.prog laidL w) (fun _ _ _ hh h => h.of_heap hh) own started (by kernel_rfl) Tryd.func6
    (ChangeSpec.witness_shaped (enc := enc) (C := Tryd.checked) (os := os) (X := fun w _ => laidMetH Tryd.prog laidL w) false (World.doorLaid Tryd.prog 40 os) #[.agg #[.int .i64 0, .int .i64 0, .int .i64 0, .int .i64 0, .int .i64 0], .int .u32 0] 8 rfl (World.shaped_of_RefB (by kernel_rfl) (by kernel_rfl)) (by kernel_rfl) (by kernel_rfl) (by kernel_rfl) (door_met os _)) ?_
  intro W base args ds gs before hval0 hW _ _ hL _
  have hval : ∀ (j : Nat) t v, Tryd.f6.params[j]? = some t → args[j]? = some v → Value.okWide Tryd.prog W .any base t v := hval0
  have hW' := hW
  obtain ⟨p, q, hA0, hV, rfl, hfz, hnd⟩ := hW
  have hA : DataW.TrodAll enc Tryd.prog W 0 (fun _ => true) true Tryd.f6.params.toList args.toList ds p := hA0
  rw [Tryd.params6] at hA hval
  obtain ⟨v0, vs0, d0, ds0, p0, q0, hargs, rfl, rfl, h0, r0⟩ := trodAll_cons hA
  obtain ⟨v1, vs1, d1, ds1, p1, q1, rfl, rfl, rfl, h1, r1⟩ := trodAll_cons r0
  obtain ⟨rfl, rfl, rfl⟩ := trodAll_nil r1
  obtain rfl : args = #[v0, v1] := by cases args; simp_all
  obtain ⟨rfl, rfl⟩ := trodVars_none hV
  have hT := tab_of hL
  have k0 := h0
  have lt0 : ∀ x ∈ p0, x.block < W.heap.size := by obtain ⟨m, hm⟩ := k0; exact DataW.trod_lt m _ _ _ hm
  obtain ⟨o0, a0, b0, c0, m0, rfl, w0⟩ := open_ins (hval 0 23 v0 rfl rfl) h0
  obtain ⟨a1, rfl, rfl, rfl, w1⟩ := open_int Tryd.underlying24 (hval 1 24 v1 rfl rfl) h1
  clear hA0 hval0
  refine (walk o0 a0 b0 c0 m0 w0 a1 w1 W hT).mono fun e W' ⟨he, bel⟩ => ?_
  subst he
  exact ⟨_, rfl, _, _, _, [], _, [], hW', trodAll_mk1 (shut_bool Tryd.underlying4 _), (trodAll_cons_mk (Below.trod laidOut (by kernel_rfl) (of_decide_eq_true (by kernel_rfl)) k0 bel lt0) (trodAll_cons_mk (shut_int Tryd.underlying24 w1) trodAll_mk0)), rfl, bel.frame _, fun h => by cases h⟩

theorem over : Rows.CodeBackSaid :=
  OpenClaim.holds_of_wide 6 Tryd.f6 rfl rfl rfl rfl rfl rfl rfl ⟨rfl, rfl, rfl, rfl, rfl⟩ rfl rfl rfl rfl rfl (by kernel_rfl) Tryd.func6 (by kernel_rfl)
    (of_decide_eq_true (by kernel_rfl)) (by unfold Func.isWrapper; first | (rw [if_pos (by decide +kernel)]; kernel_rfl) | (rw [if_neg (by decide +kernel)]; exact ⟨rfl, rfl⟩))
    (fun os started H enc _ => lifted os started H enc)

/-- The tied card. -/
theorem card : Rows.CodeBackCardSaid :=
  Claim7.holds_tied_plain_at .later [] [.data] true (true, "c7c58821a59dc2a96b18077de35e0cd15e8cbe4c0613160f2601e06160b0d7f5") false
    over (fun _ h => by cases h) (by kernel_rfl) (fun _ h => by cases h) codeBack_row_tie rfl ⟨rfl, rfl⟩ (by kernel_rfl) rfl
    (fun f fn hf hfn => by
      obtain rfl : f = 6 := Option.some.inj ((show Tryd.prog.funcNamed "splice/splicelaw02.CodeBack" = some 6 by kernel_rfl).symm.trans hf) |>.symm
      obtain rfl : fn = Tryd.f6 := (Option.some.inj (Tryd.func6.symm.trans hfn)).symm
      exact ⟨by kernel_rfl, fun j t ht => by
        rw [Tryd.params6] at ht
        have hm : t ∈ [23, 24] := by simpa using Array.mem_of_getElem? ht
        have hall : ([23, 24].all fun u => !Tryd.prog.wantsStandIn u) = true := by kernel_rfl
        exact (show Tryd.prog.wantsStandIn t = false by simpa using List.all_eq_true.1 hall t hm)⟩)
    (by kernel_rfl)
end Go.Proofs.YtidfdhghgjdihaaDoor.codeBack

namespace Go.Proofs.YtidfdhghgjdihaaDoor
theorem CodeBack_holds : Rows.CodeBackCardSaid := codeBack.card
#print axioms CodeBack_holds
end Go.Proofs.YtidfdhghgjdihaaDoor
