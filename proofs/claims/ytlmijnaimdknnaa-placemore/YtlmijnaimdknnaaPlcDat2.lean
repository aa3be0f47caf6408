/- Where data stand, as the code has it: the Fixed ones, then the others. -/
import Derived.Test.YtlmijnaimdknnaaPlcDat
import Derived.Test.YtlmijnaimdknnaaPlcSet
namespace Go.Proofs.Ytlmijnaimdknnaa
open Go.ChangeShapes Go.WideShapes Go.ChangeAt Go.RowKit
set_option linter.unusedVariables false
set_option linter.unusedSimpArgs false
set_option maxRecDepth 100000 in
set_option maxHeartbeats 4000000 in
theorem data_any {w : World} {v : Value} {l : List DatZ} (hl : IsPds w v l) (hn3 : l.length ≤ 301) (ho : DatOk l) :
    Calls Try.prog 11 #[v] w fun e w' => (∃ g, w.heap.size ≤ g ∧ g < w'.heap.size ∧ XAt w' g (nums (restG l).1) ∧ e = .returned (.tuple #[.agg #[.slice none 0 0, .slice (some ⟨g, 0, none⟩) l.length l.length, .int .i64 0, .int .i64 (restG l).2, .int .i64 (writeG l)], .bool (decide ((restG l).2 ≤ 65536))])) ∧ Below w.heap.size w w' := by
  have hl0 := hl
  obtain ⟨a, c, rfl, lm, -, -⟩ := LstA.open hl
  obtain ⟨n, en⟩ : ∃ n, l.length = n := ⟨_, rfl⟩
  rw [en] at lm hn3 hl hl0 ⊢
  have EN : Hid (l.length = n) := en
  have HL : Hid (IsPds w (.slice a n c) l) := hl0
  have HO : Hid (DatOk l) := ho
  obtain ⟨i0, hi, hz0, hz1, hz2⟩ := info_parts intI
  have hn' : (n : Int) ≤ 301 := by omega
  obtain ⟨W0, eW0⟩ : ∃ W0, ((w.alloc (.cells #[.slice a n c] 23)).alloc (.cells #[.slice none 0 0, .slice none 0 0, .int .i64 0, .int .i64 0, .int .i64 0] 34)) = W0 := ⟨_, rfl⟩
  have UP : Hid (Below w.heap.size w W0) := by rw [← eW0]; exact keep_alloc8 (keep_alloc8 (Below.refl _ _) _) _
  have XA : Hid (XAt W0 w.heap.size [.slice a n c]) := by rw [← eW0]; exact (XAt.new w #[.slice a n c] 23).later (by simp) (keep_alloc8 (Below.refl _ _) _)
  have XB : Hid (XAt W0 (w.heap.size + 1) [.slice none 0 0, .slice none 0 0, .int .i64 0, .int .i64 0, .int .i64 0]) := by
    have h := XAt.new (w.alloc (.cells #[.slice a n c] 23)) #[.slice none 0 0, .slice none 0 0, .int .i64 0, .int .i64 0, .int .i64 0] 34
    rw [World.size_alloc] at h; rw [← eW0]; exact h
  have ha : Hid (w.heap.size < W0.heap.size) := XA.out.lt (by simp)
  have hb : Hid (w.heap.size + 1 < W0.heap.size) := XB.out.lt (by simp)
  have p0 := XA.out.1 0 _ rfl
  clear hl hl0 lm en
  go_enter Try.func11, Try.ntmps11
  go_upto_region 1 with fail
  try rw [eW0]
  clear eW0
  go_upto_region 2 with (at_make; refine wpList_make_full _ rfl _ _ 28 rfl _ 3 i0 (.int .i64 0) 1 Try.underlying28 hi hz0 hz1 .i64 .i64 _ _ n rfl rfl rfl rfl (by rw [hz2]; omega) (by unfold maxLen; omega) (Nat.le_refl _) ?_; intro w2 own2 gr2)
  obtain ⟨W3, eW3⟩ : ∃ W3, w2.alloc (.cells #[.slice none 0 0, .slice (some ⟨W0.heap.size, 0, none⟩) n n, .int .i64 0, .int .i64 0, .int .i64 0] 34) = W3 := ⟨_, rfl⟩
  have U2 : Hid (Below W0.heap.size W0 w2) := grew_below gr2
  have U3 : Hid (Below w2.heap.size w2 W3) := by rw [← eW3]; exact keep_alloc8 (Below.refl _ _) _
  have G2 : Hid (W0.heap.size < w2.heap.size ∧ XAt w2 W0.heap.size (nums (List.replicate n 0))) := by
    have h := own_heap own2; rw [zeros_nums] at h; exact ⟨lt_heap h.2, xat_heap h.2⟩
  have X3 : Hid (XAt W3 w2.heap.size [.slice none 0 0, .slice (some ⟨W0.heap.size, 0, none⟩) n n, .int .i64 0, .int .i64 0, .int .i64 0]) := by rw [← eW3]; exact XAt.new w2 _ _
  have L3 : Hid (XAt W3 w.heap.size [.slice a n c]) := (XA.out.later ha.out U2.out).later (by have := ha.out; have := U2.out.size; omega) U3.out
  have R3 : Hid (XAt W3 (w.heap.size + 1) [.slice none 0 0, .slice none 0 0, .int .i64 0, .int .i64 0, .int .i64 0]) := (XB.out.later hb.out U2.out).later (by have := hb.out; have := U2.out.size; omega) U3.out
  have G3 : Hid (XAt W3 W0.heap.size (nums (List.replicate n 0))) := G2.out.2.later G2.out.1 U3.out
  have B3 : Hid (Below w.heap.size w W3) := UP.out.trans ((U2.out.mono (by have := ha.out; omega)).trans (U3.out.mono (by have := ha.out; have := U2.out.size; omega)))
  have HS : Hid (w.heap.size + 1 < W0.heap.size ∧ W0.heap.size < w2.heap.size ∧ w2.heap.size < W3.heap.size) := ⟨hb.out, G2.out.1, by rw [← eW3]; simp⟩
  go_upto_region 2 with fail
  try rw [eW3]
  clear eW3 own2 gr2 p0
  obtain ⟨g, eg⟩ : ∃ g, W0.heap.size = g := ⟨_, rfl⟩
  obtain ⟨X, eX⟩ : ∃ X, w2.heap.size = X := ⟨_, rfl⟩
  rw [eg] at U2 G2 X3 G3 HS ⊢
  rw [eX] at U3 X3 HS ⊢
  clear eg eX U2 G2 U3
  have F1 : Hid (fixG l = passG true l (List.replicate n 0) 0 n) := by show fixG l = _; unfold fixG; rw [EN.out]
  have hg1 := guard_up HO.out (fx := true) (D := List.replicate n 0) (b := 0) (B := 69647) (by omega) (by omega) n
  have C1 : Hid (Calls Try.prog 14 #[.bool true, .pointer (some ⟨w.heap.size, 0, none⟩), .pointer (some ⟨X, 0, none⟩)] W3 fun e w' => e = .returned (.tuple #[]) ∧ XAt w' w.heap.size [.slice a n c] ∧ XAt w' X [.slice none 0 0, .slice (some ⟨g, 0, none⟩) n n, .int .i64 0, .int .i64 (passG true l (List.replicate n 0) 0 n).2, .int .i64 0] ∧ XAt w' g (nums (passG true l (List.replicate n 0) 0 n).1) ∧ Below w.heap.size W3 w' ∧ Oth g X W3 w') :=
    stand_any true HL.out B3.out rfl EN.out hn3 HO.out L3.out X3.out G3.out (by simp) (by have := HS.out; omega) (by have := HS.out; omega) (by omega)
  have D1 := guard_len (fx := true) (l := l) (D := List.replicate n 0) (b := 0) n
  rw [List.length_replicate] at D1
  generalize passG true l (List.replicate n 0) 0 n = P1 at F1 hg1 C1 D1
  obtain ⟨D1', b1⟩ := P1
  dsimp only at *
  have HD1 : Hid (D1'.length = n) := D1
  clear D1 XA XB UP ha hb
  go_upto_region 4 with ((go_at_call 14); refine C1.out.mono ?_; rintro e w4 ⟨rfl, hL4, hX4, hG4, hB4, hO4⟩)
  have X4 : Hid (XAt w4 X [.slice none 0 0, .slice (some ⟨g, 0, none⟩) n n, .int .i64 0, .int .i64 b1, .int .i64 0]) := hX4
  have L4 : Hid (XAt w4 w.heap.size [.slice a n c]) := hL4
  have G4 : Hid (XAt w4 g (nums D1')) := hG4
  have R4 : Hid (XAt w4 (w.heap.size + 1) [.slice none 0 0, .slice none 0 0, .int .i64 0, .int .i64 0, .int .i64 0]) := R3.out.keep (hO4 _ (by have := HS.out; omega) (by have := HS.out; omega) (by have := HS.out; omega))
  have B4 : Hid (Below w.heap.size w w4) := B3.out.trans hB4
  have Z4 : Hid (X < w4.heap.size) := by have h1 := hB4.size; have h2 := HS.out; show X < w4.heap.size; omega
  clear hX4 hL4 hG4 hO4 hB4 X3 L3 G3 R3 B3 C1
  have F2 : Hid (writeG l = upA b1 16) := by show writeG l = _; unfold writeG; rw [F1.out]
  have UPc : Hid (∀ W, Calls Try.prog 15 #[.int .i64 b1, .int .i64 16] W fun e w' => e = .returned (.int .i64 (upA b1 16)) ∧ w' = W) := fun W => upIn (by omega) (by omega) (by omega) (by omega)
  have hu := up_facts b1 16 (by omega)
  generalize upA b1 16 = wt at F2 UPc hu
  have s3 := X4.out.1 3 _ rfl
  have s4 := X4.out.1 4 _ rfl
  have f4 := X4.out.2 4
  go_upto_region 5 with ((go_at_call 15); refine (UPc.out _).mono ?_; rintro e w4 ⟨rfl, rfl⟩)
  have X5 : Hid (XAt (w4.setCell ⟨X, 4, none⟩ (.int .i64 wt)) X [.slice none 0 0, .slice (some ⟨g, 0, none⟩) n n, .int .i64 0, .int .i64 b1, .int .i64 wt]) := X4.out.set 4 (by simp) _
  have L5 : Hid (XAt (w4.setCell ⟨X, 4, none⟩ (.int .i64 wt)) w.heap.size [.slice a n c]) := xat_other L4.out (by have := HS.out; omega) _
  have R5 : Hid (XAt (w4.setCell ⟨X, 4, none⟩ (.int .i64 wt)) (w.heap.size + 1) [.slice none 0 0, .slice none 0 0, .int .i64 0, .int .i64 0, .int .i64 0]) := xat_other R4.out (by have := HS.out; omega) _
  have G5 : Hid (XAt (w4.setCell ⟨X, 4, none⟩ (.int .i64 wt)) g (nums D1')) := xat_other G4.out (by have := HS.out; omega) _
  have B5 : Hid (Below w.heap.size w (w4.setCell ⟨X, 4, none⟩ (.int .i64 wt))) := B4.out.setCell (by show w.heap.size ≤ X; have := HS.out; omega) _
  have Z5 : Hid (X < (w4.setCell ⟨X, 4, none⟩ (.int .i64 wt)).heap.size) := by have := Z4.out; simpa [Hid] using this
  generalize (w4.setCell ⟨X, 4, none⟩ (.int .i64 wt)) = w5 at X5 L5 R5 G5 B5 Z5 ⊢
  clear s3 s4 f4 X4 L4 R4 G4 B4 Z4 UPc
  have s3 := X5.out.1 3 _ rfl
  have s4 := X5.out.1 4 _ rfl
  have f3 := X5.out.2 3
  go_upto_region 6 with fail
  have X6 : Hid (XAt (w5.setCell ⟨X, 3, none⟩ (.int .i64 wt)) X [.slice none 0 0, .slice (some ⟨g, 0, none⟩) n n, .int .i64 0, .int .i64 wt, .int .i64 wt]) := X5.out.set 3 (by simp) _
  have L6 : Hid (XAt (w5.setCell ⟨X, 3, none⟩ (.int .i64 wt)) w.heap.size [.slice a n c]) := xat_other L5.out (by have := HS.out; omega) _
  have R6 : Hid (XAt (w5.setCell ⟨X, 3, none⟩ (.int .i64 wt)) (w.heap.size + 1) [.slice none 0 0, .slice none 0 0, .int .i64 0, .int .i64 0, .int .i64 0]) := xat_other R5.out (by have := HS.out; omega) _
  have G6 : Hid (XAt (w5.setCell ⟨X, 3, none⟩ (.int .i64 wt)) g (nums D1')) := xat_other G5.out (by have := HS.out; omega) _
  have B6 : Hid (Below w.heap.size w (w5.setCell ⟨X, 3, none⟩ (.int .i64 wt))) := B5.out.setCell (by show w.heap.size ≤ X; have := HS.out; omega) _
  have Z6 : Hid (X < (w5.setCell ⟨X, 3, none⟩ (.int .i64 wt)).heap.size) := by have := Z5.out; simpa [Hid] using this
  generalize (w5.setCell ⟨X, 3, none⟩ (.int .i64 wt)) = w6 at X6 L6 R6 G6 B6 Z6 ⊢
  clear s3 s4 f3 X5 L5 R5 G5 B5 Z5
  have F3 : Hid (restG l = passG false l D1' wt n) := by show restG l = _; unfold restG; rw [F1.out, F2.out, EN.out]
  have C2 : Hid (Calls Try.prog 14 #[.bool false, .pointer (some ⟨w.heap.size, 0, none⟩), .pointer (some ⟨X, 0, none⟩)] w6 fun e w' => e = .returned (.tuple #[]) ∧ XAt w' w.heap.size [.slice a n c] ∧ XAt w' X [.slice none 0 0, .slice (some ⟨g, 0, none⟩) n n, .int .i64 0, .int .i64 (passG false l D1' wt n).2, .int .i64 wt] ∧ XAt w' g (nums (passG false l D1' wt n).1) ∧ Below w.heap.size w6 w' ∧ Oth g X w6 w') :=
    stand_any false HL.out B6.out rfl EN.out hn3 HO.out L6.out X6.out G6.out HD1.out (by have := HS.out; have := Z6.out; omega) (by have := HS.out; have := Z6.out; omega) (by omega)
  have hg2 := guard_up HO.out (fx := false) (D := D1') (b := wt) (B := 69664) (by omega) (by omega) n
  generalize passG false l D1' wt n = P2 at F3 C2 hg2
  obtain ⟨D2, b2⟩ := P2
  dsimp only at *
  go_upto_region 7 with ((go_at_call 14); refine C2.out.mono ?_; rintro e w7 ⟨rfl, hL7, hX7, hG7, hB7, hO7⟩)
  have R7 : Hid (XAt w7 (w.heap.size + 1) [.slice none 0 0, .slice none 0 0, .int .i64 0, .int .i64 0, .int .i64 0]) := R6.out.keep (hO7 _ (by have := HS.out; have := Z6.out; omega) (by have := HS.out; omega) (by have := HS.out; omega))
  have B7 : Hid (Below w.heap.size w w7) := B6.out.trans hB7
  have G7 : Hid (XAt w7 g (nums D2)) := hG7
  have Z7 : Hid (X < w7.heap.size) := by have h1 := hB7.size; have h2 := Z6.out; show X < w7.heap.size; omega
  have x0 := hX7.1 0 _ rfl
  have x1 := hX7.1 1 _ rfl
  have x2 := hX7.1 2 _ rfl
  have x3 := hX7.1 3 _ rfl
  have x4 := hX7.1 4 _ rfl
  have r0 := R7.out.1 0 _ rfl
  have r1 := R7.out.1 1 _ rfl
  have r2 := R7.out.1 2 _ rfl
  have r3 := R7.out.1 3 _ rfl
  have r4 := R7.out.1 4 _ rfl
  have f0 := R7.out.2 0
  have f1 := R7.out.2 1
  have f2 := R7.out.2 2
  have f3 := R7.out.2 3
  have f4 := R7.out.2 4
  have nX1 : ¬ X = w.heap.size + 1 := by have := HS.out; omega
  have nX2 : ¬ w.heap.size + 1 = X := by have := HS.out; omega
  clear hL7 hX7 hG7 hO7 hB7 X6 L6 R6 G6 B6 C2
  go_region
  all_goals
    go_wp2
    rw [set5_eq]
    have RZ : Hid (XAt (set5 w7 (w.heap.size + 1) (.slice none 0 0) (.slice (some ⟨g, 0, none⟩) n n) (.int .i64 0) (.int .i64 b2) (.int .i64 wt)).drew (w.heap.size + 1) [.slice none 0 0, .slice (some ⟨g, 0, none⟩) n n, .int .i64 0, .int .i64 b2, .int .i64 wt]) := (xat_set5 R7.out).drew
    have GZ : Hid (XAt (set5 w7 (w.heap.size + 1) (.slice none 0 0) (.slice (some ⟨g, 0, none⟩) n n) (.int .i64 0) (.int .i64 b2) (.int .i64 wt)).drew g (nums D2)) := (xat_other5 G7.out (by have := HS.out; omega)).drew
    have BZ : Hid (Below w.heap.size w (set5 w7 (w.heap.size + 1) (.slice none 0 0) (.slice (some ⟨g, 0, none⟩) n n) (.int .i64 0) (.int .i64 b2) (.int .i64 wt)).drew) := (below_set5 B7.out (by omega)).drew
    have ZZ : Hid (X < (set5 w7 (w.heap.size + 1) (.slice none 0 0) (.slice (some ⟨g, 0, none⟩) n n) (.int .i64 0) (.int .i64 b2) (.int .i64 wt)).drew.heap.size) := by rw [size_drew, size_set5]; exact Z7.out
    generalize (set5 w7 (w.heap.size + 1) (.slice none 0 0) (.slice (some ⟨g, 0, none⟩) n n) (.int .i64 0) (.int .i64 b2) (.int .i64 wt)).drew = w8 at RZ GZ BZ ZZ ⊢
    have z0 := RZ.out.1 0 _ rfl
    have z1 := RZ.out.1 1 _ rfl
    have z2 := RZ.out.1 2 _ rfl
    have z3 := RZ.out.1 3 _ rfl
    have z4 := RZ.out.1 4 _ rfl
    refine bodyPost_ret (v := .tuple #[.agg #[.slice none 0 0, .slice (some ⟨g, 0, none⟩) n n, .int .i64 0, .int .i64 b2, .int .i64 wt], .bool (decide (b2 ≤ 65536))]) ?_ rfl ⟨⟨g, by have := HS.out; omega, by have := HS.out; have := ZZ.out; omega, by rw [F3.out]; exact GZ.out, by rw [F3.out, F2.out]⟩, BZ.out⟩
    simp [results, Try.results11, go_sem, z0, z1, z2, z3, z4]
end Go.Proofs.Ytlmijnaimdknnaa
