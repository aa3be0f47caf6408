/- Answers that the document fixes. -/
import Derived.Test.YtombfnnpdamlgaaDoorPatAwakeM
import Derived.Test.YtombfnnpdamlgaaDoorObjSame2
namespace Go.Proofs.YtombfnnpdamlgaaDoor
open Go.ChangeShapes Go.WideShapes Go.ChangeAt Go.RowKit
set_option linter.unusedVariables false
set_option linter.unusedSimpArgs false
/-- The fixed program, in a world. -/
def P13At (W : World) (b : Nat) : Prop := XAt W b (wA.map fun x => .int .u32 x) ∧ XAt W (b + 1) (relL rA) ∧ XAt W (b + 1 + 1) (wB.map fun x => .int .u32 x) ∧ XAt W (b + 1 + 1 + 1) (relL rB) ∧ XAt W (b + 1 + 1 + 1 + 1) (fL b) ∧ XAt W (b + 1 + 1 + 1 + 1 + 1) (relL rC) ∧ XAt W (b + 1 + 1 + 1 + 1 + 1 + 1) (dL b) ∧ XAt W (b + 1 + 1 + 1 + 1 + 1 + 1 + 1) (pL b)
theorem XAt.keepB {w w' : World} {X : Nat} {cs : List Value} (h : XAt w X cs) (hn : cs ≠ []) (hb : Below w.heap.size w w') : XAt w' X cs := h.later (h.lt hn) hb
theorem P13At.later {W W' : World} {b : Nat} (h : P13At W b) (hb : Below W.heap.size W W') : P13At W' b :=
  ⟨h.1.keepB (by simp) hb, h.2.1.keepB (by simp) hb, h.2.2.1.keepB (by simp) hb, h.2.2.2.1.keepB (by simp) hb, h.2.2.2.2.1.keepB (by simp) hb, h.2.2.2.2.2.1.keepB (by simp) hb, h.2.2.2.2.2.2.1.keepB (by simp) hb, h.2.2.2.2.2.2.2.keepB (by simp) hb⟩
theorem P13At.prog {W : World} {b : Nat} (h : P13At W b) : IsProg Any8 W (.agg (pL b).toArray) p13 := prog_at h.1 h.2.1 h.2.2.1 h.2.2.2.1 h.2.2.2.2.1 h.2.2.2.2.2.1 h.2.2.2.2.2.2.1
theorem plan13 {W : World} {b q : Nat} (h : P13At W b) (hb : XAt W q [.int .i64 0, .int .i64 1]) : Calls Tryd.prog 10 #[.agg (pL b).toArray, .slice (some ⟨q, 0, none⟩) 2 2] W fun e w' =>
    (∃ g h, e = .returned (.tuple #[.agg #[.slice (some ⟨g, 0, none⟩) 2 2, .slice (some ⟨h, 0, none⟩) 1 1, .int .i64 4, .int .i64 4, .int .i64 0], .int .i64 0]) ∧ IsPlan W.heap.size w' (.agg #[.slice (some ⟨g, 0, none⟩) 2 2, .slice (some ⟨h, 0, none⟩) 1 1, .int .i64 4, .int .i64 4, .int .i64 0]) x13) ∧ Below W.heap.size W w' := by
  obtain ⟨z, hz, ho⟩ := h.prog.place
  obtain ⟨hm, hp⟩ := p13_plan ho
  refine (plan_any hz (nums_at (l := [0, 1]) hb (by decide)) hm (by decide)).mono ?_
  rintro e w' ⟨⟨v, rfl, hpl⟩, hB⟩
  rw [hp] at hpl ⊢
  obtain ⟨vc, vd, rfl, h1, h2, h3⟩ := hpl
  have h10 := h1
  have h20 := h2
  obtain ⟨g, rfl, -⟩ := row_at h1 (by simp [x13])
  obtain ⟨h, rfl, -⟩ := row_at h2 (by simp [x13])
  exact ⟨⟨g, h, rfl, _, _, rfl, h10, h20, h3⟩, hB⟩
theorem row_of {k : IntKind} {base : Nat} {w : World} {v : Value} {l : List Int} (h : RowU k base w v l) (hn : l ≠ []) : ∃ g c, v = .slice (some ⟨g, 0, none⟩) l.length c ∧ g < w.heap.size ∧ XAt w g (l.map fun x => .int k x) := by
  obtain ⟨a, c, rfl, hh, hl⟩ := h
  rcases hl with hl | ⟨g, rfl, h1, h2, h3⟩
  · exact absurd hl hn
  · exact ⟨g, c, rfl, h2, h3⟩
theorem code13 {W : World} {b base : Nat} {vx : Value} (h : P13At W b) (hx : IsPlan base W vx x13) (hT : Tab W) : Calls Tryd.prog 11 #[.agg (pL b).toArray, vx, .int .i64 0] W fun e w' =>
    (∃ g c, e = .returned (.tuple #[.slice (some ⟨g, 0, none⟩) 2 c, .int .i64 0]) ∧ g < w'.heap.size ∧ XAt w' g [.int .u32 335544321, .int .u32 352321536]) ∧ Below W.heap.size W w' := by
  refine (pcode_any h.prog hx hT p13_right p13_ok 0 (F := fA) (c := 0) rfl rfl (by decide) (by decide)).mono ?_
  rintro e w' ⟨⟨h1, -⟩ | ⟨l, v, h1, rfl, hr⟩, hB⟩
  · rw [p13_a] at h1; cases h1
  · rw [p13_a] at h1
    injection h1 with h1
    subst h1
    obtain ⟨g, c, rfl, hg, hx⟩ := row_of hr (by simp)
    exact ⟨⟨g, c, rfl, hg, hx⟩, hB⟩
theorem code13b {W : World} {b base : Nat} {vx : Value} (h : P13At W b) (hx : IsPlan base W vx x13) (hT : Tab W) : Calls Tryd.prog 11 #[.agg (pL b).toArray, vx, .int .i64 1] W fun e w' =>
    (∃ g c, e = .returned (.tuple #[.slice (some ⟨g, 0, none⟩) 2 c, .int .i64 0]) ∧ g < w'.heap.size ∧ XAt w' g [.int .u32 152043521, .int .u32 352321536]) ∧ Below W.heap.size W w' := by
  refine (pcode_any h.prog hx hT p13_right p13_ok 1 (F := fB) (c := 2) rfl rfl (by decide) (by decide)).mono ?_
  rintro e w' ⟨⟨h1, -⟩ | ⟨l, v, h1, rfl, hr⟩, hB⟩
  · rw [p13_b] at h1; cases h1
  · rw [p13_b] at h1
    injection h1 with h1
    subst h1
    obtain ⟨g, c, rfl, hg, hx⟩ := row_of hr (by simp)
    exact ⟨⟨g, c, rfl, hg, hx⟩, hB⟩
theorem data13 {W : World} {b base : Nat} {vx : Value} (h : P13At W b) (hx : IsPlan base W vx x13) : Calls Tryd.prog 14 #[.agg (pL b).toArray, vx, .int .i64 0] W fun e w' =>
    (∃ g c, e = .returned (.tuple #[.slice (some ⟨g, 0, none⟩) 4 c, .int .i64 0]) ∧ RowU .u8 0 w' (.slice (some ⟨g, 0, none⟩) 4 c) [2, 0, 1, 0]) ∧ Below W.heap.size W w' := by
  refine (pdata_any h.prog hx p13_right p13_ok 0 (D := dA) rfl (by decide) (by decide) (by decide)).mono ?_
  rintro e w' ⟨⟨h1, -⟩ | ⟨l, v, h1, rfl, hr⟩, hB⟩
  · rw [p13_c] at h1; cases h1
  · rw [p13_c] at h1
    injection h1 with h1
    subst h1
    obtain ⟨g, c, rfl, hg, hx⟩ := row_of hr (by simp)
    exact ⟨⟨g, c, rfl, hr.lower (Nat.zero_le _)⟩, hB⟩
set_option maxRecDepth 100000 in
set_option maxHeartbeats 4000000 in
theorem awake13 (w : World) (hT : Tab w) : Calls Tryd.prog 8 #[] w fun e w' => e = .returned (.bool true) ∧ Below w.heap.size w w' := by
  have H8 : Hid (_) := eight w (wA.map fun x => .int .u32 x) (relL rA) (wB.map fun x => .int .u32 x) (relL rB) (fL w.heap.size) (relL rC) (dL w.heap.size) (pL w.heap.size) 47 46 47 46 44 46 55 25 (by simp) (by simp) (by simp) (by simp) (by simp) (by simp) (by simp) (by simp)
  have HT : Hid (Tab w) := hT
  clear hT
  go_enter Tryd.func8, Tryd.ntmps8
  go_upto_region 2 with fail
  obtain ⟨W8, e8, U8, x1, x2, x3, x4, x5, x6, x7, x8⟩ := H8.out
  dsimp only [fL, dL, pL, relL, List.map] at e8
  rw [e8]
  have P8 : Hid (P13At W8 w.heap.size) := ⟨x1, x2, x3, x4, x5, x6, x7, x8⟩
  have U8H : Hid (Below w.heap.size w W8) := U8
  have T8 : Hid (Tab W8) := HT.out.later U8
  clear x1 x2 x3 x4 x5 x6 x7 x8 e8 U8 H8
  have p0 := P8.out.2.2.2.2.2.2.2.1 0 _ rfl
  have p1 := P8.out.2.2.2.2.2.2.2.1 1 _ rfl
  have p2 := P8.out.2.2.2.2.2.2.2.1 2 _ rfl
  have A9 : Hid (Below W8.heap.size W8 (W8.alloc (.cells #[.int .i64 0, .int .i64 1] 3)) ∧ XAt (W8.alloc (.cells #[.int .i64 0, .int .i64 1] 3)) W8.heap.size [.int .i64 0, .int .i64 1]) := ⟨keep_alloc8 (Below.refl _ _) _, XAt.new _ _ _⟩
  go_upto_region 3 with (go_at_call 10; refine (plan13 (P8.out.later A9.out.1) A9.out.2).mono ?_; rintro e w9 ⟨⟨g, h, rfl, hpl⟩, hB9⟩)
  have PL9 : Hid (IsPlan _ w9 _ x13) := hpl
  have B89 : Hid (Below W8.heap.size W8 w9) := bnext A9.out.1 hB9
  have X10 := XAt.new w9 #[.slice (some ⟨g, 0, none⟩) 2 2, .slice (some ⟨h, 0, none⟩) 1 1, .int .i64 4, .int .i64 4, .int .i64 0] 30
  have B10 := keep_alloc8 (Below.refl w9.heap.size w9) (.cells #[.slice (some ⟨g, 0, none⟩) 2 2, .slice (some ⟨h, 0, none⟩) 1 1, .int .i64 4, .int .i64 4, .int .i64 0] 30)
  generalize w9.alloc (.cells #[.slice (some ⟨g, 0, none⟩) 2 2, .slice (some ⟨h, 0, none⟩) 1 1, .int .i64 4, .int .i64 4, .int .i64 0] 30) = w10 at X10 B10 ⊢
  have P10 : Hid (P13At w10 w.heap.size) := P8.out.later (bnext B89.out B10)
  have PL10 : Hid (IsPlan _ w10 _ x13) := PL9.out.later B10
  have XP : Hid (XAt w10 w9.heap.size [.slice (some ⟨g, 0, none⟩) 2 2, .slice (some ⟨h, 0, none⟩) 1 1, .int .i64 4, .int .i64 4, .int .i64 0]) := X10
  have T10 : Hid (Tab w10) := T8.out.later (bnext B89.out B10)
  have U10 : Hid (Below w.heap.size w w10) := bnext U8H.out (bnext B89.out B10)
  clear hpl hB9 X10 B10 p0 p1 p2 PL9 A9 P8 U8H T8 B89
  obtain ⟨bp, ebp⟩ : ∃ bp, w.heap.size + 1 + 1 + 1 + 1 + 1 + 1 + 1 = bp := ⟨_, rfl⟩
  have XQ : Hid (XAt w10 bp (pL w.heap.size)) := by rw [← ebp]; exact P10.out.2.2.2.2.2.2.2
  obtain ⟨xp, exp⟩ : ∃ xp, w9.heap.size = xp := ⟨_, rfl⟩
  rw [exp] at XP ⊢
  rw [ebp]
  clear ebp exp
  have QC : Hid (∀ W, Below w10.heap.size w10 W → W.cell? ⟨bp, 0, none⟩ = some (.slice (some ⟨w.heap.size + 1 + 1 + 1 + 1, 0, none⟩) 2 2) ∧ W.cell? ⟨bp, 1, none⟩ = some (.slice (some ⟨w.heap.size + 1 + 1 + 1 + 1 + 1 + 1, 0, none⟩) 1 1) ∧ W.cell? ⟨bp, 2, none⟩ = some (.int .i64 0) ∧
      W.cell? ⟨xp, 0, none⟩ = some (.slice (some ⟨g, 0, none⟩) 2 2) ∧ W.cell? ⟨xp, 1, none⟩ = some (.slice (some ⟨h, 0, none⟩) 1 1) ∧ W.cell? ⟨xp, 2, none⟩ = some (.int .i64 4) ∧ W.cell? ⟨xp, 3, none⟩ = some (.int .i64 4) ∧ W.cell? ⟨xp, 4, none⟩ = some (.int .i64 0)) := fun W hW =>
    ⟨cell_any (XQ.out.1 0 _ rfl) hW, cell_any (XQ.out.1 1 _ rfl) hW, cell_any (XQ.out.1 2 _ rfl) hW, cell_any (XP.out.1 0 _ rfl) hW, cell_any (XP.out.1 1 _ rfl) hW, cell_any (XP.out.1 2 _ rfl) hW, cell_any (XP.out.1 3 _ rfl) hW, cell_any (XP.out.1 4 _ rfl) hW⟩
  obtain ⟨q0, q1, q2, q3, q4, q5, q6, q7⟩ := QC.out w10 (Below.refl _ _)
  go_upto_region 6 with (go_at_call 11; refine (code13 P10.out PL10.out T10.out).mono ?_; rintro e w11 ⟨⟨g1, c1, rfl, hg1, hx1⟩, hB11⟩)
  have H11 : Hid (Below w10.heap.size w10 w11 ∧ g1 < w11.heap.size ∧ XAt w11 g1 [.int .u32 335544321, .int .u32 352321536]) := ⟨hB11, hg1, hx1⟩
  clear q0 q1 q2 q3 q4 q5 q6 q7 hB11 hg1 hx1
  obtain ⟨q0, q1, q2, q3, q4, q5, q6, q7⟩ := QC.out w11 H11.out.1
  go_upto_region 7 with (go_at_call 11; refine (code13b (P10.out.later H11.out.1) (PL10.out.later H11.out.1) (T10.out.later H11.out.1)).mono ?_; rintro e w12 ⟨⟨g2, c2, rfl, hg2, hx2⟩, hB12⟩)
  have H12 : Hid (Below w11.heap.size w11 w12 ∧ g2 < w12.heap.size ∧ XAt w12 g2 [.int .u32 152043521, .int .u32 352321536] ∧ Below w10.heap.size w10 w12) := ⟨hB12, hg2, hx2, bnext H11.out.1 hB12⟩
  clear q0 q1 q2 q3 q4 q5 q6 q7 hB12 hg2 hx2
  obtain ⟨q0, q1, q2, q3, q4, q5, q6, q7⟩ := QC.out w12 H12.out.2.2.2
  go_upto_region 8 with (go_at_call 14; refine (data13 (P10.out.later H12.out.2.2.2) (PL10.out.later H12.out.2.2.2)).mono ?_; rintro e w13 ⟨⟨g3, c3, rfl, hr3⟩, hB13⟩)
  have H13 : Hid (RowU .u8 0 w13 (.slice (some ⟨g3, 0, none⟩) 4 c3) [2, 0, 1, 0] ∧ Below w.heap.size w w13) := ⟨hr3, bnext U10.out (bnext H12.out.2.2.2 hB13)⟩
  have x0 := (H11.out.2.2.later H11.out.2.1 (bnext H12.out.1 hB13)).1 0 _ rfl
  have y0 := (H12.out.2.2.1.later H12.out.2.1 hB13).1 0 _ rfl
  have L14 : Hid (Below w13.heap.size w13 (w13.alloc (.cells #[.int .u8 2, .int .u8 0, .int .u8 1, .int .u8 0] 5)) ∧ IsBytes Any8 (w13.alloc (.cells #[.int .u8 2, .int .u8 0, .int .u8 1, .int .u8 0] 5)) (.slice (some ⟨w13.heap.size, 0, none⟩) 4 4) [2, 0, 1, 0]) := by
    have hx := XAt.new w13 #[.int .u8 2, .int .u8 0, .int .u8 1, .int .u8 0] 5
    refine ⟨keep_alloc8 (Below.refl _ _) _, RowU.bytes (base := 0) ⟨_, _, rfl, ⟨⟨Nat.le_refl _, fun e => by cases e⟩, by decide⟩, .inr ⟨_, rfl, Nat.zero_le _, hx.lt (by simp), hx⟩⟩ (fun x hx => by simp at hx; omega)⟩
  clear q0 q1 q2 q3 q4 q5 q6 q7 hB13 hr3
  go_wp2_with (go_at_call 16; refine (rbytes_any (RowU.bytes (H13.out.1.later L14.out.1) (fun x hx => by simp at hx; omega)) L14.out.2).mono ?_; rintro e w15 ⟨⟨bb, rfl, hbb⟩, hB15⟩; obtain rfl : bb = true := hbb.2 rfl)
  go_ret
  exact ⟨rfl, bnext H13.out.2 (bnext L14.out.1 hB15)⟩
end Go.Proofs.YtombfnnpdamlgaaDoor
