/- For every two instructions CodeApart returns true: two right ones have the same word only if they are alike. The package variable shapes holds what the program's text lays there. -/
import Derived.Test.YtidfdhghgjdihaaDoorCodeFrame
import Derived.Test.YtidfdhghgjdihaaDoorCodePG
import Derived.WalkKit
import Derived.ProofKit
namespace Go.Proofs.YtidfdhghgjdihaaDoor.codeApart
open Go.ChangeShapes Go.WideShapes Go.ChangeAt Go.RowKit Go.Deep
set_option linter.unusedVariables false

theorem hid {p : Prop} (h : p) : Hid p := h
set_option maxHeartbeats 2000000 in
theorem walk_no0 (op a b c m o p q r s : Int) (w : World) (hT : Tab w)
    (hP : ∀ wx, Tab wx → Calls Tryd.prog 9 #[.agg #[.int .i64 op, .int .i64 a, .int .i64 b, .int .i64 c, .int .i64 m]] wx fun e w' => e = .returned (.tuple #[.int .u32 0, .int .i64 3]) ∧ Below wx.heap.size wx w')
    (hQ : ∀ wx, Tab wx → Calls Tryd.prog 9 #[.agg #[.int .i64 o, .int .i64 p, .int .i64 q, .int .i64 r, .int .i64 s]] wx fun e w' => e = .returned (.tuple #[.int .u32 0, .int .i64 3]) ∧ Below wx.heap.size wx w') :
    Calls Tryd.prog 8 #[.agg (insV op a b c m), .agg (insV o p q r s)] w fun e w' => e = .returned (.bool true) ∧ Below w.heap.size w w' := by
  unfold insV
  have HT : Hid (Tab w) := hT
  have HP := hid hP
  have HQ := hid hQ
  have HB0 : Hid (Below w.heap.size w ((w.alloc (.cells #[.int .i64 op, .int .i64 a, .int .i64 b, .int .i64 c, .int .i64 m] 23)).alloc (.cells #[.int .i64 o, .int .i64 p, .int .i64 q, .int .i64 r, .int .i64 s] 23))) := ((Below.refl _ _).alloc (Nat.le_refl _) _).alloc (by simp) _
  have HI0 : Hid (InsAt ((w.alloc (.cells #[.int .i64 op, .int .i64 a, .int .i64 b, .int .i64 c, .int .i64 m] 23)).alloc (.cells #[.int .i64 o, .int .i64 p, .int .i64 q, .int .i64 r, .int .i64 s] 23)) w.heap.size op a b c m) := InsAt.later (InsAt.new w op a b c m 23) ((Below.refl _ _).alloc (Nat.le_refl _) _)
  have HJ0 : Hid (InsAt ((w.alloc (.cells #[.int .i64 op, .int .i64 a, .int .i64 b, .int .i64 c, .int .i64 m] 23)).alloc (.cells #[.int .i64 o, .int .i64 p, .int .i64 q, .int .i64 r, .int .i64 s] 23)) (w.heap.size + 1) o p q r s) := by
    have e : w.heap.size + 1 = (w.alloc (.cells #[.int .i64 op, .int .i64 a, .int .i64 b, .int .i64 c, .int .i64 m] 23)).heap.size := by simp
    rw [e]; exact InsAt.new _ o p q r s 23
  clear hT hP hQ
  go_enter Tryd.func8, Tryd.ntmps8
  go_wp2_with fail
  refine Calls.mono (HP.out _ (HT.out.later HB0.out)) ?_
  rintro e w1 ⟨rfl, hb1⟩
  have HB1 : Hid (Below w.heap.size w w1) := HB0.out.trans (hb1.mono (by simp; omega))
  have HI1 : Hid (InsAt w1 w.heap.size op a b c m) := HI0.out.later hb1
  have HJ1 : Hid (InsAt w1 (w.heap.size + 1) o p q r s) := HJ0.out.later hb1
  obtain ⟨f0, f1, f2, f3, f4⟩ := HJ1.out
  clear hb1
  go_wp2_with fail
  refine Calls.mono (HQ.out _ (HT.out.later HB1.out)) ?_
  rintro e w2 ⟨rfl, hb2⟩
  have HB2 : Hid (Below w.heap.size w w2) := HB1.out.trans (hb2.mono HB1.out.size)
  have HI2 : Hid (InsAt w2 w.heap.size op a b c m) := HI1.out.later hb2
  have HJ2 : Hid (InsAt w2 (w.heap.size + 1) o p q r s) := HJ1.out.later hb2
  clear f0 f1 f2 f3 f4 hb2
  go_wp2_with fail
  refine (awake_any _ (HT.out.later HB2.out)).mono ?_
  rintro e w3 ⟨rfl, hb3⟩
  have HB3 : Hid (Below w.heap.size w w3) := HB2.out.trans (hb3.mono HB2.out.size)
  clear hb3
  go_wp2_with fail
  refine (awake_any _ (HT.out.later HB3.out)).mono ?_
  rintro e w4 ⟨rfl, hb4⟩
  have HB4 : Hid (Below w.heap.size w w4) := HB3.out.trans (hb4.mono HB3.out.size)
  clear hb4
  go_wp2
  go_ret
  exact ⟨rfl, HB4.out⟩
set_option maxHeartbeats 2000000 in
theorem walk_no1 (op a b c m o p q r s py : Int) (w : World) (hT : Tab w)
    (hP : ∀ wx, Tab wx → Calls Tryd.prog 9 #[.agg #[.int .i64 op, .int .i64 a, .int .i64 b, .int .i64 c, .int .i64 m]] wx fun e w' => e = .returned (.tuple #[.int .u32 0, .int .i64 3]) ∧ Below wx.heap.size wx w')
    (hQ : ∀ wx, Tab wx → Calls Tryd.prog 9 #[.agg #[.int .i64 o, .int .i64 p, .int .i64 q, .int .i64 r, .int .i64 s]] wx fun e w' => e = .returned (.tuple #[.int .u32 py, .int .i64 0]) ∧ Below wx.heap.size wx w') :
    Calls Tryd.prog 8 #[.agg (insV op a b c m), .agg (insV o p q r s)] w fun e w' => e = .returned (.bool true) ∧ Below w.heap.size w w' := by
  unfold insV
  have HT : Hid (Tab w) := hT
  have HP := hid hP
  have HQ := hid hQ
  have HB0 : Hid (Below w.heap.size w ((w.alloc (.cells #[.int .i64 op, .int .i64 a, .int .i64 b, .int .i64 c, .int .i64 m] 23)).alloc (.cells #[.int .i64 o, .int .i64 p, .int .i64 q, .int .i64 r, .int .i64 s] 23))) := ((Below.refl _ _).alloc (Nat.le_refl _) _).alloc (by simp) _
  have HI0 : Hid (InsAt ((w.alloc (.cells #[.int .i64 op, .int .i64 a, .int .i64 b, .int .i64 c, .int .i64 m] 23)).alloc (.cells #[.int .i64 o, .int .i64 p, .int .i64 q, .int .i64 r, .int .i64 s] 23)) w.heap.size op a b c m) := InsAt.later (InsAt.new w op a b c m 23) ((Below.refl _ _).alloc (Nat.le_refl _) _)
  have HJ0 : Hid (InsAt ((w.alloc (.cells #[.int .i64 op, .int .i64 a, .int .i64 b, .int .i64 c, .int .i64 m] 23)).alloc (.cells #[.int .i64 o, .int .i64 p, .int .i64 q, .int .i64 r, .int .i64 s] 23)) (w.heap.size + 1) o p q r s) := by
    have e : w.heap.size + 1 = (w.alloc (.cells #[.int .i64 op, .int .i64 a, .int .i64 b, .int .i64 c, .int .i64 m] 23)).heap.size := by simp
    rw [e]; exact InsAt.new _ o p q r s 23
  clear hT hP hQ
  go_enter Tryd.func8, Tryd.ntmps8
  go_wp2_with fail
  refine Calls.mono (HP.out _ (HT.out.later HB0.out)) ?_
  rintro e w1 ⟨rfl, hb1⟩
  have HB1 : Hid (Below w.heap.size w w1) := HB0.out.trans (hb1.mono (by simp; omega))
  have HI1 : Hid (InsAt w1 w.heap.size op a b c m) := HI0.out.later hb1
  have HJ1 : Hid (InsAt w1 (w.heap.size + 1) o p q r s) := HJ0.out.later hb1
  obtain ⟨f0, f1, f2, f3, f4⟩ := HJ1.out
  clear hb1
  go_wp2_with fail
  refine Calls.mono (HQ.out _ (HT.out.later HB1.out)) ?_
  rintro e w2 ⟨rfl, hb2⟩
  have HB2 : Hid (Below w.heap.size w w2) := HB1.out.trans (hb2.mono HB1.out.size)
  have HI2 : Hid (InsAt w2 w.heap.size op a b c m) := HI1.out.later hb2
  have HJ2 : Hid (InsAt w2 (w.heap.size + 1) o p q r s) := HJ1.out.later hb2
  clear f0 f1 f2 f3 f4 hb2
  go_wp2_with fail
  refine (awake_any _ (HT.out.later HB2.out)).mono ?_
  rintro e w3 ⟨rfl, hb3⟩
  have HB3 : Hid (Below w.heap.size w w3) := HB2.out.trans (hb3.mono HB2.out.size)
  clear hb3
  go_wp2_with fail
  refine (awake_any _ (HT.out.later HB3.out)).mono ?_
  rintro e w4 ⟨rfl, hb4⟩
  have HB4 : Hid (Below w.heap.size w w4) := HB3.out.trans (hb4.mono HB3.out.size)
  clear hb4
  go_wp2
  go_ret
  exact ⟨rfl, HB4.out⟩
set_option maxHeartbeats 2000000 in
theorem walk_half (op a b c m o p q r s px : Int) (w : World) (hT : Tab w)
    (hP : ∀ wx, Tab wx → Calls Tryd.prog 9 #[.agg #[.int .i64 op, .int .i64 a, .int .i64 b, .int .i64 c, .int .i64 m]] wx fun e w' => e = .returned (.tuple #[.int .u32 px, .int .i64 0]) ∧ Below wx.heap.size wx w')
    (hQ : ∀ wx, Tab wx → Calls Tryd.prog 9 #[.agg #[.int .i64 o, .int .i64 p, .int .i64 q, .int .i64 r, .int .i64 s]] wx fun e w' => e = .returned (.tuple #[.int .u32 0, .int .i64 3]) ∧ Below wx.heap.size wx w') :
    Calls Tryd.prog 8 #[.agg (insV op a b c m), .agg (insV o p q r s)] w fun e w' => e = .returned (.bool true) ∧ Below w.heap.size w w' := by
  unfold insV
  have HT : Hid (Tab w) := hT
  have HP := hid hP
  have HQ := hid hQ
  have HB0 : Hid (Below w.heap.size w ((w.alloc (.cells #[.int .i64 op, .int .i64 a, .int .i64 b, .int .i64 c, .int .i64 m] 23)).alloc (.cells #[.int .i64 o, .int .i64 p, .int .i64 q, .int .i64 r, .int .i64 s] 23))) := ((Below.refl _ _).alloc (Nat.le_refl _) _).alloc (by simp) _
  have HI0 : Hid (InsAt ((w.alloc (.cells #[.int .i64 op, .int .i64 a, .int .i64 b, .int .i64 c, .int .i64 m] 23)).alloc (.cells #[.int .i64 o, .int .i64 p, .int .i64 q, .int .i64 r, .int .i64 s] 23)) w.heap.size op a b c m) := InsAt.later (InsAt.new w op a b c m 23) ((Below.refl _ _).alloc (Nat.le_refl _) _)
  have HJ0 : Hid (InsAt ((w.alloc (.cells #[.int .i64 op, .int .i64 a, .int .i64 b, .int .i64 c, .int .i64 m] 23)).alloc (.cells #[.int .i64 o, .int .i64 p, .int .i64 q, .int .i64 r, .int .i64 s] 23)) (w.heap.size + 1) o p q r s) := by
    have e : w.heap.size + 1 = (w.alloc (.cells #[.int .i64 op, .int .i64 a, .int .i64 b, .int .i64 c, .int .i64 m] 23)).heap.size := by simp
    rw [e]; exact InsAt.new _ o p q r s 23
  clear hT hP hQ
  go_enter Tryd.func8, Tryd.ntmps8
  go_wp2_with fail
  refine Calls.mono (HP.out _ (HT.out.later HB0.out)) ?_
  rintro e w1 ⟨rfl, hb1⟩
  have HB1 : Hid (Below w.heap.size w w1) := HB0.out.trans (hb1.mono (by simp; omega))
  have HI1 : Hid (InsAt w1 w.heap.size op a b c m) := HI0.out.later hb1
  have HJ1 : Hid (InsAt w1 (w.heap.size + 1) o p q r s) := HJ0.out.later hb1
  obtain ⟨f0, f1, f2, f3, f4⟩ := HJ1.out
  clear hb1
  go_wp2_with fail
  refine Calls.mono (HQ.out _ (HT.out.later HB1.out)) ?_
  rintro e w2 ⟨rfl, hb2⟩
  have HB2 : Hid (Below w.heap.size w w2) := HB1.out.trans (hb2.mono HB1.out.size)
  have HI2 : Hid (InsAt w2 w.heap.size op a b c m) := HI1.out.later hb2
  have HJ2 : Hid (InsAt w2 (w.heap.size + 1) o p q r s) := HJ1.out.later hb2
  clear f0 f1 f2 f3 f4 hb2
  go_wp2_with fail
  refine (awake_any _ (HT.out.later HB2.out)).mono ?_
  rintro e w3 ⟨rfl, hb3⟩
  have HB3 : Hid (Below w.heap.size w w3) := HB2.out.trans (hb3.mono HB2.out.size)
  clear hb3
  go_wp2_with fail
  refine (awake_any _ (HT.out.later HB3.out)).mono ?_
  rintro e w4 ⟨rfl, hb4⟩
  have HB4 : Hid (Below w.heap.size w w4) := HB3.out.trans (hb4.mono HB3.out.size)
  clear hb4
  go_wp2
  go_ret
  exact ⟨rfl, HB4.out⟩
set_option maxHeartbeats 2000000 in
theorem walk_yes (op a b c m o p q r s px py : Int) (w : World) (hT : Tab w)
    (hP : ∀ wx, Tab wx → Calls Tryd.prog 9 #[.agg #[.int .i64 op, .int .i64 a, .int .i64 b, .int .i64 c, .int .i64 m]] wx fun e w' => e = .returned (.tuple #[.int .u32 px, .int .i64 0]) ∧ Below wx.heap.size wx w')
    (hQ : ∀ wx, Tab wx → Calls Tryd.prog 9 #[.agg #[.int .i64 o, .int .i64 p, .int .i64 q, .int .i64 r, .int .i64 s]] wx fun e w' => e = .returned (.tuple #[.int .u32 py, .int .i64 0]) ∧ Below wx.heap.size wx w')
    (hE : (px == py) = (op == o && a == p && b == q && c == r && m == s)) :
    Calls Tryd.prog 8 #[.agg (insV op a b c m), .agg (insV o p q r s)] w fun e w' => e = .returned (.bool true) ∧ Below w.heap.size w w' := by
  unfold insV
  have HT : Hid (Tab w) := hT
  have HP := hid hP
  have HQ := hid hQ
  have heq : ∀ w, (binOp .eql 23 (.agg #[.int .i64 op, .int .i64 a, .int .i64 b, .int .i64 c, .int .i64 m]) (.agg #[.int .i64 o, .int .i64 p, .int .i64 q, .int .i64 r, .int .i64 s])).run Tryd.prog w = .ok (.bool (px == py)) w := by
    intro w; rw [hE]; exact run_eql_ins w op a b c m o p q r s
  clear hE
  have HB0 : Hid (Below w.heap.size w ((w.alloc (.cells #[.int .i64 op, .int .i64 a, .int .i64 b, .int .i64 c, .int .i64 m] 23)).alloc (.cells #[.int .i64 o, .int .i64 p, .int .i64 q, .int .i64 r, .int .i64 s] 23))) := ((Below.refl _ _).alloc (Nat.le_refl _) _).alloc (by simp) _
  have HI0 : Hid (InsAt ((w.alloc (.cells #[.int .i64 op, .int .i64 a, .int .i64 b, .int .i64 c, .int .i64 m] 23)).alloc (.cells #[.int .i64 o, .int .i64 p, .int .i64 q, .int .i64 r, .int .i64 s] 23)) w.heap.size op a b c m) := InsAt.later (InsAt.new w op a b c m 23) ((Below.refl _ _).alloc (Nat.le_refl _) _)
  have HJ0 : Hid (InsAt ((w.alloc (.cells #[.int .i64 op, .int .i64 a, .int .i64 b, .int .i64 c, .int .i64 m] 23)).alloc (.cells #[.int .i64 o, .int .i64 p, .int .i64 q, .int .i64 r, .int .i64 s] 23)) (w.heap.size + 1) o p q r s) := by
    have e : w.heap.size + 1 = (w.alloc (.cells #[.int .i64 op, .int .i64 a, .int .i64 b, .int .i64 c, .int .i64 m] 23)).heap.size := by simp
    rw [e]; exact InsAt.new _ o p q r s 23
  clear hT hP hQ
  go_enter Tryd.func8, Tryd.ntmps8
  go_wp2_with fail
  refine Calls.mono (HP.out _ (HT.out.later HB0.out)) ?_
  rintro e w1 ⟨rfl, hb1⟩
  have HB1 : Hid (Below w.heap.size w w1) := HB0.out.trans (hb1.mono (by simp; omega))
  have HI1 : Hid (InsAt w1 w.heap.size op a b c m) := HI0.out.later hb1
  have HJ1 : Hid (InsAt w1 (w.heap.size + 1) o p q r s) := HJ0.out.later hb1
  obtain ⟨f0, f1, f2, f3, f4⟩ := HJ1.out
  clear hb1
  go_wp2_with fail
  refine Calls.mono (HQ.out _ (HT.out.later HB1.out)) ?_
  rintro e w2 ⟨rfl, hb2⟩
  have HB2 : Hid (Below w.heap.size w w2) := HB1.out.trans (hb2.mono HB1.out.size)
  have HI2 : Hid (InsAt w2 w.heap.size op a b c m) := HI1.out.later hb2
  have HJ2 : Hid (InsAt w2 (w.heap.size + 1) o p q r s) := HJ1.out.later hb2
  clear f0 f1 f2 f3 f4 hb2
  go_wp2_with fail
  refine (awake_any _ (HT.out.later HB2.out)).mono ?_
  rintro e w3 ⟨rfl, hb3⟩
  have HB3 : Hid (Below w.heap.size w w3) := HB2.out.trans (hb3.mono HB2.out.size)
  have HI3 : Hid (InsAt w3 w.heap.size op a b c m) := HI2.out.later hb3
  have HJ3 : Hid (InsAt w3 (w.heap.size + 1) o p q r s) := HJ2.out.later hb3
  obtain ⟨f0, f1, f2, f3, f4⟩ := HI3.out
  obtain ⟨g0, g1, g2, g3, g4⟩ := HJ3.out
  clear hb3
  go_wp2
  go_ret
  exact ⟨rfl, HB3.out⟩
theorem same_iff (op a b c m o p q r s : Int) (h : rightB op a b c m = true) (k : rightB o p q r s = true) : (putZ op a b c m == putZ o p q r s) = (op == o && a == p && b == q && c == r && m == s) := by
  rw [Bool.eq_iff_iff]
  simp only [Bool.and_eq_true, beq_iff_eq]
  constructor
  · intro e
    obtain ⟨_, e0, e1, e2, e3, e4⟩ := put_fields op a b c m h
    obtain ⟨_, d0, d1, d2, d3, d4⟩ := put_fields o p q r s k
    rw [e] at e0 e1 e2 e3 e4
    exact ⟨⟨⟨⟨e0.symm.trans d0, e1.symm.trans d1⟩, e2.symm.trans d2⟩, e3.symm.trans d3⟩, e4.symm.trans d4⟩
  · rintro ⟨⟨⟨⟨rfl, rfl⟩, rfl⟩, rfl⟩, rfl⟩; rfl
theorem walk (op a b c m : Int) (hw : (Lit.int .i64 op).wf = true ∧ (Lit.int .i64 a).wf = true ∧ (Lit.int .i64 b).wf = true ∧ (Lit.int .i64 c).wf = true ∧ (Lit.int .i64 m).wf = true) (o p q r s : Int) (hv : (Lit.int .i64 o).wf = true ∧ (Lit.int .i64 p).wf = true ∧ (Lit.int .i64 q).wf = true ∧ (Lit.int .i64 r).wf = true ∧ (Lit.int .i64 s).wf = true) (w : World) (hT : Tab w) :
    Calls Tryd.prog 8 #[.agg (insV op a b c m), .agg (insV o p q r s)] w fun e w' => e = .returned (.bool true) ∧ Below w.heap.size w w' := by
  cases hr : rightB op a b c m
  · have hP := fun wx hx => put_not op a b c m wx hx hr
    cases hs : rightB o p q r s
    · exact walk_no0 op a b c m o p q r s w hT hP (fun wx hx => put_not o p q r s wx hx hs)
    · exact walk_no1 op a b c m o p q r s _ w hT hP (fun wx hx => put_yes o p q r s wx hx hs)
  · have hP := fun wx hx => put_yes op a b c m wx hx hr
    cases hs : rightB o p q r s
    · exact walk_half op a b c m o p q r s _ w hT hP (fun wx hx => put_not o p q r s wx hx hs)
    · exact walk_yes op a b c m o p q r s _ _ w hT hP (fun wx hx => put_yes o p q r s wx hx hs) (same_iff op a b c m o p q r s hr hs)

/-! ### The row's step -/
set_option maxRecDepth 100000 in
theorem lifted (os : Os) (started : os.Started) (H : Type) (enc : TypeId × Value → H) :
    ReturnsInHanded {} Tryd.checked os 8 .any (fun w args => (Rows.codeApartSpec.pre enc Tryd.prog Tryd.f8 [] false w args ∧ laidMetH Tryd.prog laidL w) ∧ sizedMet enc Tryd.prog Tryd.f8 (OpenSpec.ofChange Rows.codeApartSpec) false w args)
      (Rows.codeApartSpec.post enc Tryd.prog Tryd.f8 false true false false) := by
  refine returnsInHanded_of_change_and (C := Tryd.checked) (X := fun w _ => laidMetH Tryd.prog laidL w) (fun _ _ _ hh h => h.of_heap hh) own started (by kernel_rfl) Tryd.func8
    (ChangeSpec.witness_shaped (enc := enc) (C := Tryd.checked) (os := os) (X := fun w _ => laidMetH Tryd.prog laidL w) false (World.doorLaid Tryd.prog 40 os) #[.agg #[.int .i64 0, .int .i64 0, .int .i64 0, .int .i64 0, .int .i64 0], .agg #[.int .i64 0, .int .i64 0, .int .i64 0, .int .i64 0, .int .i64 0]] 8 rfl (World.shaped_of_RefB (by kernel_rfl) (by kernel_rfl)) (by kernel_rfl) (by kernel_rfl) (by kernel_rfl) (door_met os _)) ?_
  intro W base args ds gs before hval0 hW _ _ hL _
  have hval : ∀ (j : Nat) t v, Tryd.f8.params[j]? = some t → args[j]? = some v → Value.okWide Tryd.prog W .any base t v := hval0
  have hW' := hW
  obtain ⟨p, q, hA0, hV, rfl, hfz, hnd⟩ := hW
  have hA : DataW.TrodAll enc Tryd.prog W 0 (fun _ => true) true Tryd.f8.params.toList args.toList ds p := hA0
  rw [Tryd.params8] at hA hval
  obtain ⟨v0, vs0, d0, ds0, p0, q0, hargs, rfl, rfl, h0, r0⟩ := trodAll_cons hA
  obtain ⟨v1, vs1, d1, ds1, p1, q1, rfl, rfl, rfl, h1, r1⟩ := trodAll_cons r0
  obtain ⟨rfl, rfl, rfl⟩ := trodAll_nil r1
  obtain rfl : args = #[v0, v1] := by cases args; simp_all
  obtain ⟨rfl, rfl⟩ := trodVars_none hV
  have hT := tab_of hL
  have k0 := h0
  have lt0 : ∀ x ∈ p0, x.block < W.heap.size := by obtain ⟨m, hm⟩ := k0; exact DataW.trod_lt m _ _ _ hm
  obtain ⟨o0, a0, b0, c0, m0, rfl, w0⟩ := open_ins (hval 0 23 v0 rfl rfl) h0
  have k1 := h1
  have lt1 : ∀ x ∈ p1, x.block < W.heap.size := by obtain ⟨m, hm⟩ := k1; exact DataW.trod_lt m _ _ _ hm
  obtain ⟨o1, a1, b1, c1, m1, rfl, w1⟩ := open_ins (hval 1 23 v1 rfl rfl) h1
  clear hA0 hval0
  refine (walk o0 a0 b0 c0 m0 w0 o1 a1 b1 c1 m1 w1 W hT).mono fun e W' ⟨he, bel⟩ => ?_
  subst he
  exact ⟨_, rfl, _, _, _, [], _, [], hW', trodAll_mk1 (shut_bool Tryd.underlying4 _), (trodAll_cons_mk (Below.trod laidOut (by kernel_rfl) (of_decide_eq_true (by kernel_rfl)) k0 bel lt0) (trodAll_cons_mk (Below.trod laidOut (by kernel_rfl) (of_decide_eq_true (by kernel_rfl)) k1 bel lt1) trodAll_mk0)), rfl, bel.frame _, fun h => by cases h⟩

theorem over : Rows.CodeApartSaid :=
  OpenClaim.holds_of_wide 8 Tryd.f8 rfl rfl rfl rfl rfl rfl rfl ⟨rfl, rfl, rfl, rfl, rfl⟩ rfl rfl rfl rfl rfl (by kernel_rfl) Tryd.func8 (by kernel_rfl)
    (of_decide_eq_true (by kernel_rfl)) (by unfold Func.isWrapper; first | (rw [if_pos (by decide +kernel)]; kernel_rfl) | (rw [if_neg (by decide +kernel)]; exact ⟨rfl, rfl⟩))
    (fun os started H enc _ => lifted os started H enc)

/-- The tied card. -/
theorem card : Rows.CodeApartCardSaid :=
  Claim7.holds_tied_plain_at .later [] [.data] true (true, "c7c58821a59dc2a96b18077de35e0cd15e8cbe4c0613160f2601e06160b0d7f5") false
    over (fun _ h => by cases h) (by kernel_rfl) (fun _ h => by cases h) codeApart_row_tie rfl ⟨rfl, rfl⟩ (by kernel_rfl) rfl
    (fun f fn hf hfn => by
      obtain rfl : f = 8 := Option.some.inj ((show Tryd.prog.funcNamed "splice/splicelaw02.CodeApart" = some 8 by kernel_rfl).symm.trans hf) |>.symm
      obtain rfl : fn = Tryd.f8 := (Option.some.inj (Tryd.func8.symm.trans hfn)).symm
      exact ⟨by kernel_rfl, fun j t ht => by
        rw [Tryd.params8] at ht
        have hm : t ∈ [23, 23] := by simpa using Array.mem_of_getElem? ht
        have hall : ([23, 23].all fun u => !Tryd.prog.wantsStandIn u) = true := by kernel_rfl
        exact (show Tryd.prog.wantsStandIn t = false by simpa using List.all_eq_true.1 hall t hm)⟩)
    (by kernel_rfl)
end Go.Proofs.YtidfdhghgjdihaaDoor.codeApart

namespace Go.Proofs.YtidfdhghgjdihaaDoor
theorem CodeApart_holds : Rows.CodeApartCardSaid := codeApart.card
#print axioms CodeApart_holds
end Go.Proofs.YtidfdhghgjdihaaDoor
