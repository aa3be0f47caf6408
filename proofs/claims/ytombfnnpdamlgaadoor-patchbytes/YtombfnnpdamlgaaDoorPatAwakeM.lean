/- The program of the fixed answers, in memory and over lists. No condition. -/
import Derived.Test.YtombfnnpdamlgaaDoorPatData
import Derived.Test.YtombfnnpdamlgaaDoorPlcPlan
import Derived.Test.YtombfnnpdamlgaaDoorPlcAll
import Derived.Test.YtombfnnpdamlgaaDoorPatMay
namespace Go.Proofs.YtombfnnpdamlgaaDoor
open Go.ChangeShapes Go.WideShapes Go.ChangeAt Go.RowKit
set_option linter.unusedVariables false
set_option linter.unusedSimpArgs false
set_option maxRecDepth 100000
theorem row_at {base : Nat} {w : World} {v : Value} {l : List Int} (h : RowI base w v l) (hn : l ≠ []) : ∃ g, v = .slice (some ⟨g, 0, none⟩) l.length l.length ∧ g < w.heap.size ∧ XAt w g (nums l) := by
  rcases h with ⟨-, h⟩ | ⟨g, h1, -, h2, h3, -⟩
  · exact absurd h hn
  · exact ⟨g, h1, h2, h3⟩
theorem nums_at {w : World} {b : Nat} {l : List Int} (h : XAt w b (nums l)) (hl : l.length ≤ maxLen) : IsNums w (.slice (some ⟨b, 0, none⟩) l.length l.length) l :=
  ⟨_, _, rfl, ⟨⟨Nat.le_refl _, fun e => by cases e⟩, hl⟩, fun _ _ => trivial, .inr ⟨b, 0, rfl, fun i x hi => by rw [Nat.zero_add, Nat.mul_one]; exact h.1 i _ (nums_get hi)⟩⟩
abbrev wA : List Int := [335544320, 352321536]
abbrev wB : List Int := [152043520, 352321536]
abbrev rA : PRelM := ⟨0, 1, 1, 0⟩
abbrev rB : PRelM := ⟨0, 2, 0, 0⟩
abbrev rC : PRelM := ⟨0, 4, 0, 2⟩
abbrev fA : PFuncM := ⟨⟨#[]⟩, false, false, wA, [rA]⟩
abbrev fB : PFuncM := ⟨⟨#[]⟩, false, false, wB, [rB]⟩
abbrev dA : PDataM := ⟨4, false, 4, [], [rC]⟩
def p13 : ProgM := ⟨[fA, fB], [dA], 0⟩
def x13 : PlanZ := ⟨[0, 2], [0], 4, 4, 0⟩
abbrev relL (r : PRelM) : List Value := [.int .i64 r.at_, .int .i64 r.kind, .int .i64 r.to, .int .i64 r.add]
abbrev fL (b : Nat) : List Value := [.string ⟨#[]⟩, .bool false, .bool false, .slice (some ⟨b, 0, none⟩) 2 2, .slice (some ⟨b + 1, 0, none⟩) 1 1, .string ⟨#[]⟩, .bool false, .bool false, .slice (some ⟨b + 1 + 1, 0, none⟩) 2 2, .slice (some ⟨b + 1 + 1 + 1, 0, none⟩) 1 1]
abbrev dL (b : Nat) : List Value := [.int .i64 4, .bool false, .int .i64 4, .slice none 0 0, .slice (some ⟨b + 1 + 1 + 1 + 1 + 1, 0, none⟩) 1 1]
abbrev pL (b : Nat) : List Value := [.slice (some ⟨b + 1 + 1 + 1 + 1, 0, none⟩) 2 2, .slice (some ⟨b + 1 + 1 + 1 + 1 + 1 + 1, 0, none⟩) 1 1, .int .i64 0]
theorem wAW : Wrd wA := fun x hx => by simp at hx; omega
theorem wBW : Wrd wB := fun x hx => by simp at hx; omega
theorem words_at {W : World} {b : Nat} {l : List Int} (h : XAt W b (l.map fun x => .int .u32 x)) (hl : l.length ≤ maxLen) (hw : Wrd l) : IsWords Any8 W (.slice (some ⟨b, 0, none⟩) l.length l.length) l :=
  ⟨⟨_, _, rfl, ⟨⟨Nat.le_refl _, fun e => by cases e⟩, hl⟩, fun _ _ => trivial, .inr ⟨b, 0, rfl, fun i x hi => by rw [Nat.zero_add, Nat.mul_one]; exact xat_num h hi⟩⟩, hw⟩
theorem rel_at {W : World} {b : Nat} {r : PRelM} (h : XAt W b (relL r)) : IsPRels Any8 W (.slice (some ⟨b, 0, none⟩) 1 1) [r] := by
  refine ⟨_, _, rfl, ⟨⟨Nat.le_refl _, fun e => by cases e⟩, by decide⟩, fun _ _ => trivial, .inr ⟨b, 0, rfl, fun i x hi => ?_⟩⟩
  match i with
  | 0 => simp at hi; subst hi; exact ⟨h.1 0 _ rfl, h.1 1 _ rfl, h.1 2 _ rfl, h.1 3 _ rfl⟩
  | i + 1 => simp at hi
theorem prog_at {W : World} {b : Nat} (h0 : XAt W b (wA.map fun x => .int .u32 x)) (h1 : XAt W (b + 1) (relL rA)) (h2 : XAt W (b + 1 + 1) (wB.map fun x => .int .u32 x)) (h3 : XAt W (b + 1 + 1 + 1) (relL rB))
    (h4 : XAt W (b + 1 + 1 + 1 + 1) (fL b)) (h5 : XAt W (b + 1 + 1 + 1 + 1 + 1) (relL rC)) (h6 : XAt W (b + 1 + 1 + 1 + 1 + 1 + 1) (dL b)) : IsProg Any8 W (.agg (pL b).toArray) p13 := by
  refine ⟨_, _, rfl, ⟨_, _, rfl, ⟨⟨Nat.le_refl _, fun e => by cases e⟩, by decide⟩, fun _ _ => trivial, .inr ⟨b + 1 + 1 + 1 + 1, 0, rfl, fun i y hi => ?_⟩⟩, ⟨_, _, rfl, ⟨⟨Nat.le_refl _, fun e => by cases e⟩, by decide⟩, fun _ _ => trivial, .inr ⟨b + 1 + 1 + 1 + 1 + 1 + 1, 0, rfl, fun i y hi => ?_⟩⟩⟩
  · match i with
    | 0 => simp [p13] at hi; subst hi; exact ⟨_, _, h4.1 0 _ rfl, h4.1 1 _ rfl, h4.1 2 _ rfl, h4.1 3 _ rfl, h4.1 4 _ rfl, words_at h0 (by decide) wAW, rel_at h1⟩
    | 1 => simp [p13] at hi; subst hi; exact ⟨_, _, h4.1 5 _ rfl, h4.1 6 _ rfl, h4.1 7 _ rfl, h4.1 8 _ rfl, h4.1 9 _ rfl, words_at h2 (by decide) wBW, rel_at h3⟩
    | i + 2 => simp [p13] at hi
  · match i with
    | 0 => simp [p13] at hi; subst hi; exact ⟨_, _, h6.1 0 _ rfl, h6.1 1 _ rfl, h6.1 2 _ rfl, h6.1 3 _ rfl, h6.1 4 _ rfl, ⟨LstA.nil, fun x h => by cases h⟩, rel_at h5⟩
    | i + 1 => simp [p13] at hi
theorem p13_plan {z : ProgZ} (h : OfP p13 z) : MayZ z ∧ planZ z [0, 1] = (0, x13) := by
  obtain ⟨h1, h2, h3, h4⟩ := h
  obtain ⟨c, d, e⟩ := z
  dsimp only at h1 h2 h3 h4
  subst h1 h2
  obtain ⟨y, hy, a1, a2, a3, a4, a5⟩ := h4 0 dA rfl
  match d, h3 with
  | [y'], _ =>
    simp at hy
    subst hy
    obtain ⟨al, fi, si, ba, bn, bc, ra, rn, rc⟩ := y'
    dsimp only at a1 a2 a3 a4 a5
    subst a1 a2 a3 a4 a5
    refine ⟨⟨by simp [p13], by simp, fun n hn => by simp [p13] at hn; omega, fun q hq => ?_⟩, rfl⟩
    simp at hq
    subst hq
    exact ⟨by show (1 : Int) ≤ 4; decide, by show (4 : Int) ≤ 16; decide, by show (1 : Int) ≤ 4; decide, by show (4 : Int) ≤ 4096; decide⟩
theorem asc_one {g : Int} {r : PRelM} : Asc g [r] := fun k a b h1 h2 => by simp at h2
theorem p13_right : RightP p13 := by
  refine ⟨fun F hF => ?_, fun D hD => ?_⟩
  · simp [p13] at hF
    rcases hF with rfl | rfl
    · exact ⟨fun r hr => by simp at hr; subst hr; exact ⟨by decide, by decide, by decide, by decide, by decide, by decide, .inl ⟨rfl, .inr (by decide), by decide⟩⟩, asc_one⟩
    · exact ⟨fun r hr => by simp at hr; subst hr; exact ⟨by decide, by decide, by decide, by decide, by decide, by decide, .inr ⟨.inl ⟨rfl, by decide⟩, by decide⟩⟩, asc_one⟩
  · simp [p13] at hD
    subst hD
    exact ⟨fun r hr => by simp at hr; subst hr; exact ⟨rfl, by decide, by decide, by decide, by decide, by decide, by decide⟩, asc_one⟩
theorem p13_ok : PlanOk p13.funcs.length p13.datas.length x13 := ⟨rfl, by decide, rfl, by decide⟩
theorem p13_a : codeZ x13 0 fA = some [335544321, 352321536] := by decide
theorem p13_b : codeZ x13 2 fB = some [152043521, 352321536] := by decide
theorem p13_c : dataZ x13 dA = some [2, 0, 1, 0] := by decide
theorem XAt.alloc {w : World} {X : Nat} {cs : List Value} (h : XAt w X cs) (hn : cs ≠ []) (o : Obj) : XAt (w.alloc o) X cs := h.later (h.lt hn) (keep_alloc8 (Below.refl _ _) _)
theorem eight (w : World) (c1 c2 c3 c4 c5 c6 c7 c8 : List Value) (t1 t2 t3 t4 t5 t6 t7 t8 : TypeId) (n1 : c1 ≠ []) (n2 : c2 ≠ []) (n3 : c3 ≠ []) (n4 : c4 ≠ []) (n5 : c5 ≠ []) (n6 : c6 ≠ []) (n7 : c7 ≠ []) (n8 : c8 ≠ []) :
    ∃ W, ((((((((w.alloc (.cells c1.toArray t1)).alloc (.cells c2.toArray t2)).alloc (.cells c3.toArray t3)).alloc (.cells c4.toArray t4)).alloc (.cells c5.toArray t5)).alloc (.cells c6.toArray t6)).alloc (.cells c7.toArray t7)).alloc (.cells c8.toArray t8)) = W ∧ Below w.heap.size w W ∧
      XAt W w.heap.size c1 ∧ XAt W (w.heap.size + 1) c2 ∧ XAt W (w.heap.size + 1 + 1) c3 ∧ XAt W (w.heap.size + 1 + 1 + 1) c4 ∧ XAt W (w.heap.size + 1 + 1 + 1 + 1) c5 ∧ XAt W (w.heap.size + 1 + 1 + 1 + 1 + 1) c6 ∧ XAt W (w.heap.size + 1 + 1 + 1 + 1 + 1 + 1) c7 ∧ XAt W (w.heap.size + 1 + 1 + 1 + 1 + 1 + 1 + 1) c8 := by
  have s1 : (w.alloc (.cells c1.toArray t1)).heap.size = w.heap.size + 1 := World.size_alloc ..
  have x1 := XAt.new w c1.toArray t1
  generalize hw1 : w.alloc (.cells c1.toArray t1) = w1 at s1 x1 ⊢
  have b1 : Below w.heap.size w w1 := by rw [← hw1]; exact keep_alloc8 (Below.refl _ _) _
  have x2 := XAt.new w1 c2.toArray t2
  have s2 : (w1.alloc (.cells c2.toArray t2)).heap.size = w.heap.size + 1 + 1 := by rw [World.size_alloc, s1]
  rw [s1] at x2
  have y1 := XAt.alloc (cs := c1) x1 n1 (.cells c2.toArray t2)
  have b2 := keep_alloc8 b1 (.cells c2.toArray t2)
  generalize w1.alloc (.cells c2.toArray t2) = w2 at s2 x2 y1 b2 ⊢
  have x3 := XAt.new w2 c3.toArray t3
  have s3 : (w2.alloc (.cells c3.toArray t3)).heap.size = w.heap.size + 1 + 1 + 1 := by rw [World.size_alloc, s2]
  rw [s2] at x3
  replace y1 := XAt.alloc y1 n1 (.cells c3.toArray t3)
  have y2 := XAt.alloc (cs := c2) x2 n2 (.cells c3.toArray t3)
  have b3 := keep_alloc8 b2 (.cells c3.toArray t3)
  generalize w2.alloc (.cells c3.toArray t3) = w3 at s3 x3 y1 y2 b3 ⊢
  have x4 := XAt.new w3 c4.toArray t4
  have s4 : (w3.alloc (.cells c4.toArray t4)).heap.size = w.heap.size + 1 + 1 + 1 + 1 := by rw [World.size_alloc, s3]
  rw [s3] at x4
  replace y1 := XAt.alloc y1 n1 (.cells c4.toArray t4)
  replace y2 := XAt.alloc y2 n2 (.cells c4.toArray t4)
  have y3 := XAt.alloc (cs := c3) x3 n3 (.cells c4.toArray t4)
  have b4 := keep_alloc8 b3 (.cells c4.toArray t4)
  generalize w3.alloc (.cells c4.toArray t4) = w4 at s4 x4 y1 y2 y3 b4 ⊢
  have x5 := XAt.new w4 c5.toArray t5
  have s5 : (w4.alloc (.cells c5.toArray t5)).heap.size = w.heap.size + 1 + 1 + 1 + 1 + 1 := by rw [World.size_alloc, s4]
  rw [s4] at x5
  replace y1 := XAt.alloc y1 n1 (.cells c5.toArray t5)
  replace y2 := XAt.alloc y2 n2 (.cells c5.toArray t5)
  replace y3 := XAt.alloc y3 n3 (.cells c5.toArray t5)
  have y4 := XAt.alloc (cs := c4) x4 n4 (.cells c5.toArray t5)
  have b5 := keep_alloc8 b4 (.cells c5.toArray t5)
  generalize w4.alloc (.cells c5.toArray t5) = w5 at s5 x5 y1 y2 y3 y4 b5 ⊢
  have x6 := XAt.new w5 c6.toArray t6
  have s6 : (w5.alloc (.cells c6.toArray t6)).heap.size = w.heap.size + 1 + 1 + 1 + 1 + 1 + 1 := by rw [World.size_alloc, s5]
  rw [s5] at x6
  replace y1 := XAt.alloc y1 n1 (.cells c6.toArray t6)
  replace y2 := XAt.alloc y2 n2 (.cells c6.toArray t6)
  replace y3 := XAt.alloc y3 n3 (.cells c6.toArray t6)
  replace y4 := XAt.alloc y4 n4 (.cells c6.toArray t6)
  have y5 := XAt.alloc (cs := c5) x5 n5 (.cells c6.toArray t6)
  have b6 := keep_alloc8 b5 (.cells c6.toArray t6)
  generalize w5.alloc (.cells c6.toArray t6) = w6 at s6 x6 y1 y2 y3 y4 y5 b6 ⊢
  have x7 := XAt.new w6 c7.toArray t7
  have s7 : (w6.alloc (.cells c7.toArray t7)).heap.size = w.heap.size + 1 + 1 + 1 + 1 + 1 + 1 + 1 := by rw [World.size_alloc, s6]
  rw [s6] at x7
  replace y1 := XAt.alloc y1 n1 (.cells c7.toArray t7)
  replace y2 := XAt.alloc y2 n2 (.cells c7.toArray t7)
  replace y3 := XAt.alloc y3 n3 (.cells c7.toArray t7)
  replace y4 := XAt.alloc y4 n4 (.cells c7.toArray t7)
  replace y5 := XAt.alloc y5 n5 (.cells c7.toArray t7)
  have y6 := XAt.alloc (cs := c6) x6 n6 (.cells c7.toArray t7)
  have b7 := keep_alloc8 b6 (.cells c7.toArray t7)
  generalize w6.alloc (.cells c7.toArray t7) = w7 at s7 x7 y1 y2 y3 y4 y5 y6 b7 ⊢
  have x8 := XAt.new w7 c8.toArray t8
  rw [s7] at x8
  exact ⟨_, rfl, keep_alloc8 b7 _, XAt.alloc y1 n1 _, XAt.alloc y2 n2 _, XAt.alloc y3 n3 _, XAt.alloc y4 n4 _, XAt.alloc y5 n5 _, XAt.alloc y6 n6 _, XAt.alloc (cs := c7) x7 n7 _, x8⟩
end Go.Proofs.YtombfnnpdamlgaaDoor
