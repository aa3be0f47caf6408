/- awake of layer 7 returns true. -/
import Derived.Test.YtnpejnjigaalfaaDoorRun
namespace Go.Proofs.YtnpejnjigaalfaaDoor
open Go.ChangeShapes Go.WideShapes Go.ChangeAt Go.RowKit
set_option linter.unusedVariables false
set_option linter.unusedSimpArgs false
def zF : Nat → Int := fun _ => 0
def raS : St := newZ 0 0 zF 0 0 0 zF
def rbS : St := newZ 0 0 zF 0 2 0 zF
def rbH : St := { rbS with cd := rbS.r 0, en := true, ft := 0 }
theorem ra_1 : itY 0 zF raS 1 = raS.stop 2 := by
  show stepY 0 zF raS = _
  unfold stepY
  rw [if_neg (by decide), if_neg (by decide)]
  unfold stepZ
  rw [if_neg (by decide), if_pos (by decide)]
theorem ra_5 : itY 0 zF raS 5 = raS.stop 2 ∧ cntY 0 zF raS 5 = 1 := by
  have h := itY_ended (n := 0) (f := zF) (s := raS) (k := 1) (by rw [ra_1]; rfl) 4
  exact ⟨h.1.trans ra_1, h.2⟩
theorem rb_1 : itY 1 zF rbS 1 = rbH := by
  show stepY 1 zF rbS = _
  unfold stepY
  rw [if_neg (by decide), if_neg (by decide)]
  exact step_halt 1 zF rbS rfl 0 rfl (by omega) 0 rfl (by decide) (by decide)
theorem rb_5 : itY 1 zF rbS 5 = rbH ∧ cntY 1 zF rbS 5 = 1 := by
  have h := itY_ended (n := 1) (f := zF) (s := rbS) (k := 1) (by rw [rb_1]; rfl) 4
  exact ⟨h.1.trans rb_1, h.2⟩
def trA : Tr := { on_ := 0, of_ := zF, en := true, cd := 0, ft := 2, mn := 0, mf := raS.mf, st := 1 }
def trB : Tr := { on_ := 0, of_ := zF, en := true, cd := 0, ft := 0, mn := 2, mf := rbS.mf, st := 1 }
theorem tr_ab : alikeZ trA trB = false := by decide
set_option maxRecDepth 100000 in
set_option maxHeartbeats 2000000 in
theorem awake7 (w : World) (hT : Tab w) : Calls Tryd.prog 8 #[] w fun e w' => e = .returned (.bool true) ∧ Below w.heap.size w w' := by
  have D1 : Hid (Calls Tryd.prog 10 #[.agg #[.slice none 0 0, .int .i64 0, .slice none 0 0, .int .i64 0, .int .i64 0], .slice none 0 0, .int .i64 5] w fun e w' => ∃ oa oc ma mc, e = .returned (.agg (traceV oa 0 oc true 0 2 ma 0 mc 1)) ∧ IsTr w' (.agg (traceV oa 0 oc true 0 2 ma 0 mc 1)) trA ∧ Below w.heap.size w w') := by
    have z0 : ∀ W, Bytes W none 0 zF := fun W => ⟨fun _ => by simp [zF], .inl rfl⟩
    have h := do_st w none 0 0 zF 0 none 0 0 zF 0 0 none 0 0 zF 5 (by omega) (by omega) (by omega) (by omega) (by omega) (by omega) (by omega) ⟨Nat.le_refl _, fun _ => rfl⟩ ⟨Nat.le_refl _, fun _ => rfl⟩ ⟨Nat.le_refl _, fun _ => rfl⟩ ⟨fun _ => rfl, .inl rfl⟩ (z0 w) (z0 w) hT
    refine h.mono ?_
    rintro e w' ⟨oa, oc, ma, mc, h1, h2, ⟨h3, h4, h5⟩, h6⟩
    rw [show (5 : Int).toNat = 5 from rfl, show newZ 0 0 zF 0 0 0 zF = raS from rfl, ra_5.1] at h1 h2 h3 h4 h5
    rw [ra_5.2] at h1
    refine ⟨oa, oc, ma, mc, h1, ⟨oa, oc, ma, mc, rfl, h2, h3, h5, ?_⟩, h6⟩
    exact .inl rfl
  have D2 : Hid (∀ W, Below w.heap.size w W → Calls Tryd.prog 10 #[.agg #[.slice (some ⟨W.heap.size, 0, none⟩) 1 1, .int .i64 0, .slice none 0 0, .int .i64 0, .int .i64 2], .slice none 0 0, .int .i64 5] (W.alloc (.cells #[.int .u32 0] 28)) fun e w' => ∃ oa oc ma mc, e = .returned (.agg (traceV oa 0 oc true 0 0 ma 2 mc 1)) ∧ IsTr w' (.agg (traceV oa 0 oc true 0 0 ma 2 mc 1)) trB ∧ Below W.heap.size W w') := fun W hW => by
    have z0 : ∀ W, Bytes W none 0 zF := fun W => ⟨fun _ => by simp [zF], .inl rfl⟩
    have b1 : Below W.heap.size W (W.alloc (.cells #[.int .u32 0] 28)) := (Below.refl _ _).alloc (Nat.le_refl _) _
    have r1 : RowK .u32 (W.alloc (.cells #[.int .u32 0] 28)) (some ⟨W.heap.size, 0, none⟩) 1 zF := ⟨fun _ => rfl, .inr ⟨_, _, rfl, fun i hi => by obtain rfl : i = 0 := (by omega); exact new_cell' W _ _ 0 _ rfl⟩⟩
    have h := do_st (W.alloc (.cells #[.int .u32 0] 28)) (some ⟨W.heap.size, 0, none⟩) 1 1 zF 0 none 0 0 zF 0 2 none 0 0 zF 5 (by omega) (by omega) (by omega) (by omega) (by omega) (by omega) (by omega) ⟨Nat.le_refl _, fun e => by cases e⟩ ⟨Nat.le_refl _, fun _ => rfl⟩ ⟨Nat.le_refl _, fun _ => rfl⟩ r1 (z0 _) (z0 _) (hT.later (bnext hW b1))
    refine h.mono ?_
    rintro e w' ⟨oa, oc, ma, mc, h1, h2, ⟨h3, h4, h5⟩, h6⟩
    rw [show (5 : Int).toNat = 5 from rfl, show newZ 0 0 zF 0 2 0 zF = rbS from rfl, rb_5.1] at h1 h2 h3 h4 h5
    rw [rb_5.2] at h1
    refine ⟨oa, oc, ma, mc, h1, ⟨oa, oc, ma, mc, rfl, h2, h3, h5, ?_⟩, bnext b1 h6⟩
    obtain h4 | ⟨g, rfl, -, h4⟩ := h4
    · exact absurd h4 (by decide)
    · exact .inr ⟨g, 0, rfl, fun i hi => by rw [Nat.zero_add]; exact h4.1 i hi⟩
  clear hT
  go_enter Tryd.func8, Tryd.ntmps8
  go_upto_region 2 with (go_at_call 10; refine D1.out.mono ?_; rintro e w1 ⟨oa, oc, ma, mc, rfl, ht1, hb1⟩)
  have b2 : Below w1.heap.size w1 (w1.alloc (.cells (traceV oa 0 oc true 0 2 ma 0 mc 1) 30)) := (Below.refl _ _).alloc (Nat.le_refl _) _
  have Q2 : Hid (Below w.heap.size w (w1.alloc (.cells (traceV oa 0 oc true 0 2 ma 0 mc 1) 30))) := bnext hb1 b2
  have R1 : Hid (∀ j v, (traceV oa 0 oc true 0 2 ma 0 mc 1)[j]? = some v → (w1.alloc (.cells (traceV oa 0 oc true 0 2 ma 0 mc 1) 30)).cell? ⟨w1.heap.size, j, none⟩ = some v) := fun j v h => new_cell' w1 _ _ j v h
  have I1 : Hid (IsTr (w1.alloc (.cells (traceV oa 0 oc true 0 2 ma 0 mc 1) 30)) (.agg (traceV oa 0 oc true 0 2 ma 0 mc 1)) trA) := ht1.later b2
  clear ht1 hb1 b2 D1
  generalize w1.heap.size = g1 at R1 ⊢
  generalize w1.alloc (.cells (traceV oa 0 oc true 0 2 ma 0 mc 1) 30) = w2 at Q2 R1 I1 ⊢
  go_upto_region 3 with (go_at_call 10; refine (D2.out w2 Q2.out).mono ?_; rintro e w3 ⟨ob, oc2, mb, mc2, rfl, ht2, hb3⟩)
  have b4 : Below w3.heap.size w3 (w3.alloc (.cells (traceV ob 0 oc2 true 0 0 mb 2 mc2 1) 30)) := (Below.refl _ _).alloc (Nat.le_refl _) _
  have Q4 : Hid (Below w2.heap.size w2 (w3.alloc (.cells (traceV ob 0 oc2 true 0 0 mb 2 mc2 1) 30))) := bnext hb3 b4
  have R2 : Hid (∀ j v, (traceV ob 0 oc2 true 0 0 mb 2 mc2 1)[j]? = some v → (w3.alloc (.cells (traceV ob 0 oc2 true 0 0 mb 2 mc2 1) 30)).cell? ⟨w3.heap.size, j, none⟩ = some v) := fun j v h => new_cell' w3 _ _ j v h
  have I2 : Hid (IsTr (w3.alloc (.cells (traceV ob 0 oc2 true 0 0 mb 2 mc2 1) 30)) (.agg (traceV ob 0 oc2 true 0 0 mb 2 mc2 1)) trB) := ht2.later b4
  clear ht2 hb3 b4 D2
  generalize w3.heap.size = g2 at R2 ⊢
  generalize w3.alloc (.cells (traceV ob 0 oc2 true 0 0 mb 2 mc2 1) 30) = w4 at Q4 R2 I2 ⊢
  have p0 : w4.cell? ⟨g1, 0, none⟩ = some (.slice oa 0 oc) := cell_later' (R1.out 0 _ rfl) Q4.out
  have p1 : w4.cell? ⟨g1, 1, none⟩ = some (.bool true) := cell_later' (R1.out 1 _ rfl) Q4.out
  have p2 : w4.cell? ⟨g1, 2, none⟩ = some (.int .u32 0) := cell_later' (R1.out 2 _ rfl) Q4.out
  have p3 : w4.cell? ⟨g1, 3, none⟩ = some (.int .i64 2) := cell_later' (R1.out 3 _ rfl) Q4.out
  have p4 : w4.cell? ⟨g1, 4, none⟩ = some (.slice ma 0 mc) := cell_later' (R1.out 4 _ rfl) Q4.out
  have p5 : w4.cell? ⟨g1, 5, none⟩ = some (.int .i64 1) := cell_later' (R1.out 5 _ rfl) Q4.out
  have q0 : w4.cell? ⟨g2, 0, none⟩ = some (.slice ob 0 oc2) := R2.out 0 _ rfl
  have q1 : w4.cell? ⟨g2, 1, none⟩ = some (.bool true) := R2.out 1 _ rfl
  have q2 : w4.cell? ⟨g2, 2, none⟩ = some (.int .u32 0) := R2.out 2 _ rfl
  have q3 : w4.cell? ⟨g2, 3, none⟩ = some (.int .i64 0) := R2.out 3 _ rfl
  have q4 : w4.cell? ⟨g2, 4, none⟩ = some (.slice mb 2 mc2) := R2.out 4 _ rfl
  have q5 : w4.cell? ⟨g2, 5, none⟩ = some (.int .i64 1) := R2.out 5 _ rfl
  have AB : Hid (∀ W, Below w4.heap.size w4 W → Calls Tryd.prog 17 #[.agg (traceV oa 0 oc true 0 2 ma 0 mc 1), .agg (traceV ob 0 oc2 true 0 0 mb 2 mc2 1)] W fun e w' => e = .returned (.bool false) ∧ Below W.heap.size W w') := fun W hW => by
    have h := alike_st ((I1.out.later Q4.out).later hW) (I2.out.later hW) ⟨by decide, by decide⟩ ⟨by decide, by decide⟩
    rwa [tr_ab] at h
  have BB : Hid (∀ W, Below w4.heap.size w4 W → Calls Tryd.prog 17 #[.agg (traceV ob 0 oc2 true 0 0 mb 2 mc2 1), .agg (traceV ob 0 oc2 true 0 0 mb 2 mc2 1)] W fun e w' => e = .returned (.bool true) ∧ Below W.heap.size W w') := fun W hW => by
    have h := alike_st (I2.out.later hW) (I2.out.later hW) ⟨by decide, by decide⟩ ⟨by decide, by decide⟩
    rwa [alike_self] at h
  clear R1 R2 I1 I2
  go_wp2_with (first
    | (go_at_call 17; revert hb5; intro hb5; refine (AB.out _ hb5).mono ?_; rintro e w6 ⟨rfl, hb6⟩)
    | (go_at_call 17; refine (BB.out _ (Below.refl _ _)).mono ?_; rintro e w5 ⟨rfl, hb5⟩; have p0' := cell_later' p0 hb5; have q0' := cell_later' q0 hb5; have p1' := cell_later' p1 hb5; have q1' := cell_later' q1 hb5; have p2' := cell_later' p2 hb5; have q2' := cell_later' q2 hb5; have p3' := cell_later' p3 hb5; have q3' := cell_later' q3 hb5; have p4' := cell_later' p4 hb5; have q4' := cell_later' q4 hb5; have p5' := cell_later' p5 hb5; have q5' := cell_later' q5 hb5))
  go_ret
  exact ⟨rfl, bnext (bnext (bnext Q2.out Q4.out) hb5) hb6⟩
end Go.Proofs.YtnpejnjigaalfaaDoor
