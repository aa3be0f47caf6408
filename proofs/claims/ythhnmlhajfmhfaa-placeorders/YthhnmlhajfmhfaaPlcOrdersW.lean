/- PlaceOrders' walk. -/
import Derived.Test.YthhnmlhajfmhfaaPlcLaw
import Derived.Test.YthhnmlhajfmhfaaPlcSame
import Derived.Test.YthhnmlhajfmhfaaPlcOrdM
import Derived.Test.YthhnmlhajfmhfaaAppends
import Derived.Deep.RegionLaw
namespace Go.Proofs.Ythhnmlhajfmhfaa
open Go.ChangeShapes Go.WideShapes Go.ChangeAt Go.RowKit
set_option linter.unusedVariables false
set_option linter.unusedSimpArgs false
theorem own_nums' {w : World} {base n c : Nat} {a : Option Addr} {l : List Int} (h : w.ownsRow base 3 1 (.slice a n c) n (nums l)) : IsNums w (.slice a n c) l := by
  have hn : l.length = n := by have := h.1; rw [nums_len, Nat.mul_one] at this; exact this
  subst hn
  rcases h.2 with ⟨e, h0⟩ | ⟨g, cap, cur, e, hb, hg, hnc, hcm, hcs, htake⟩
  · simp only [Value.slice.injEq] at e
    obtain ⟨rfl, -, rfl⟩ := e
    exact ⟨_, _, rfl, ⟨⟨by omega, fun _ => rfl⟩, by omega⟩, fun _ _ => trivial, .inl (List.eq_nil_of_length_eq_zero h0)⟩
  · simp only [Value.slice.injEq] at e
    obtain ⟨rfl, -, rfl⟩ := e
    refine ⟨_, _, rfl, ⟨⟨hnc, fun e => by cases e⟩, hcm⟩, fun _ _ => trivial, .inr ⟨g, 0, rfl, fun i x hi => ?_⟩⟩
    rw [Nat.zero_add, Nat.mul_one]
    exact (h.cellAt i (by have := get_lt hi; omega)).trans (nums_get hi)
theorem below_grown' {w w' : World} {B : Nat} {r : Option Nat} (h : w.grownBy w' r) (hr : ∀ b, r = some b → B ≤ b) (hB : B ≤ w.heap.size) : Below B w w' := ⟨h.os, h.tape, h.output, h.size, fun k hk => h.block k (by omega) (fun e => by have := hr k e.symm; omega)⟩
set_option maxRecDepth 100000 in
set_option maxHeartbeats 8000000 in
theorem orders_walk {w : World} {v : Value} {p : ProgZ} (h : IsP w v p) (a1 : Int) (ha0 : 0 ≤ a1) (ha1 : a1 < 256) :
    Calls Try.prog 5 #[v, .int .u8 a1] w fun e w' => e = .returned (.bool true) ∧ Below w.heap.size w w' := by
  have AW : Hid (∀ W, Calls Try.prog 8 #[] W fun e w' => e = .returned (.bool true) ∧ Below W.heap.size W w') := fun W => awake12 W
  have MC : Hid (∀ W, Below w.heap.size w W → Calls Try.prog 9 #[v] W fun e w' => OnlyIf e (MayZ p) ∧ Below W.heap.size W w') := fun W hW => may_any (h.later hW)
  have AC : Hid (MayZ p → ∀ W, Below w.heap.size w W → Calls Try.prog 13 #[v] W fun e w' => (∃ g, e = .returned (.slice (some ⟨g, 0, none⟩) p.codes.length p.codes.length) ∧ W.heap.size ≤ g ∧ g < w'.heap.size ∧ XAt w' g (nums (iotaZ p.codes.length))) ∧ Below W.heap.size W w') := fun hm W hW => all_any (h.later hW) hm.1
  have PC : Hid (MayZ p → ∀ W vo o, Below w.heap.size w W → IsNums W vo o → o.length ≤ 400 → Calls Try.prog 10 #[v, vo] W fun e w' => PlanPost W.heap.size (planZ p o) e w' ∧ Below W.heap.size W w') := fun hm W vo o hW ho hl => plan_any (h.later hW) ho hm hl
  obtain ⟨fa, fc, da, dc, rfl, fx, dx⟩ := h.open
  obtain ⟨F, eF⟩ : ∃ F, p.codes.length = F := ⟨_, rfl⟩
  obtain ⟨D, eD⟩ : ∃ D, p.datas.length = D := ⟨_, rfl⟩
  obtain ⟨E, eE⟩ : ∃ E, p.entry = E := ⟨_, rfl⟩
  have EF : Hid (p.codes.length = F) := eF
  rw [eF, eD, eE] at MC AC PC
  rw [eF] at fx
  rw [eF, eD, eE]
  have FX : Hid (∀ k, k < F → ∃ b off x, fa = some ⟨b, off, none⟩ ∧ Any8 b ∧ p.codes[k]? = some x ∧ PfAt w b (off + k * 5) x) := fx
  clear h eF eD eE fx dx
  obtain ⟨W0, eW0⟩ : ∃ W0, w.alloc (.cells #[.slice fa F fc, .slice da D dc, .int .i64 E] 25) = W0 := ⟨_, rfl⟩
  have UP : Hid (Below w.heap.size w W0) := by rw [← eW0]; exact keep_alloc8 (Below.refl _ _) _
  have XA : Hid (XAt W0 w.heap.size [.slice fa F fc, .slice da D dc, .int .i64 E]) := by rw [← eW0]; exact XAt.new w _ _
  have ha : Hid (w.heap.size < W0.heap.size) := XA.out.lt (by simp)
  rcases Nat.eq_zero_or_pos F with rfl | hpos
  · go_enter Try.func5, Try.ntmps5
    go_upto_region 1 with fail
    try rw [eW0]
    clear eW0
    go_wp2_with (first
      | (go_at_call 8; have q := hB2; refine (AW.out _).mono ?_; rintro e w3 ⟨rfl, hB3⟩)
      | (go_at_call 8; refine (AW.out _).mono ?_; rintro e w1 ⟨rfl, hB1⟩; have p0 := (XA.out.later ha.out hB1).1 0 _ rfl; have p1 := (XA.out.later ha.out hB1).1 1 _ rfl; have p2 := (XA.out.later ha.out hB1).1 2 _ rfl)
      | (go_at_call 9; refine (MC.out _ (bnext UP.out hB1)).mono ?_; rintro e w2 ⟨⟨b, rfl, hb⟩, hB2⟩; cases b; all_goals (have p0 := ((XA.out.later ha.out hB1).later (Nat.lt_of_lt_of_le ha.out hB1.size) hB2).1 0 _ rfl)))
    all_goals
      go_ret
      exact ⟨rfl, bnext UP.out (bnext hB1 (bnext hB2 hB3))⟩
  · have hF0 : ((F : Int) == 0) = false := by simp; omega
    have hF1 : 1 ≤ (F : Int) := by omega
    go_enter Try.func5, Try.ntmps5
    go_upto_region 1 with fail
    try rw [eW0]
    clear eW0
    go_upto_region 3 with (first
      | (go_at_call 8; have q := hB2; refine (AW.out _).mono ?_; rintro e w3 ⟨rfl, hB3⟩)
      | (go_at_call 8; refine (AW.out _).mono ?_; rintro e w1 ⟨rfl, hB1⟩; have p0 := (XA.out.later ha.out hB1).1 0 _ rfl; have p1 := (XA.out.later ha.out hB1).1 1 _ rfl; have p2 := (XA.out.later ha.out hB1).1 2 _ rfl)
      | (go_at_call 9; refine (MC.out _ (bnext UP.out hB1)).mono ?_; rintro e w2 ⟨⟨b, rfl, hb⟩, hB2⟩; cases b; all_goals (have p0 := ((XA.out.later ha.out hB1).later (Nat.lt_of_lt_of_le ha.out hB1.size) hB2).1 0 _ rfl)))
    · go_ret
      exact ⟨rfl, bnext UP.out (bnext hB1 (bnext hB2 hB3))⟩
    have hm : MayZ p := hb trivial
    have HM : Hid (MayZ p) := hm
    have hF3 : (F : Int) ≤ 300 := by have := hm.1; have := EF.out; omega
    have AC' : Hid (∀ W, Below w.heap.size w W → Calls Try.prog 13 #[.agg #[.slice fa F fc, .slice da D dc, .int .i64 E]] W fun e w' => (∃ g, e = .returned (.slice (some ⟨g, 0, none⟩) F F) ∧ W.heap.size ≤ g ∧ g < w'.heap.size ∧ XAt w' g (nums (iotaZ F))) ∧ Below W.heap.size W w') := AC.out hm
    have PC' : Hid (∀ W vo o, Below w.heap.size w W → IsNums W vo o → o.length ≤ 400 → Calls Try.prog 10 #[.agg #[.slice fa F fc, .slice da D dc, .int .i64 E], vo] W fun e w' => PlanPost W.heap.size (planZ p o) e w' ∧ Below W.heap.size W w') := PC.out hm
    have B2 : Hid (Below w.heap.size w w2) := bnext UP.out (bnext hB1 hB2)
    have P2 : Hid (XAt w2 w.heap.size [.slice fa F fc, .slice da D dc, .int .i64 E]) := (XA.out.later ha.out hB1).later (Nat.lt_of_lt_of_le ha.out hB1.size) hB2
    have L2 : Hid (w.heap.size < w2.heap.size) := by have h1 := ha.out; have h2 := hB1.size; have h3 := hB2.size; show _ < _; omega
    clear hb hm AC PC MC AW UP XA hB1 hB2 ha p0 p1 p2
    have p0 := P2.out.1 0 _ rfl
    have p1 := P2.out.1 1 _ rfl
    have p2 := P2.out.1 2 _ rfl
    obtain ⟨k, hk⟩ : ∃ k : Nat, a1 % (F : Int) = k := ⟨(a1 % (F : Int)).toNat, by have := Int.emod_nonneg a1 (show (F : Int) ≠ 0 by omega); omega⟩
    have hkF : k < F := by have := Int.emod_lt_of_pos a1 (show (0 : Int) < F by omega); omega
    have hkF' : (k : Int) < F := by omega
    have hw1 : IntKind.i64.wrap a1 = a1 := IntWalk.i64_in _ (by omega)
    go_upto_region 4 with (go_at_call 13; refine (AC'.out _ B2.out).mono ?_; rintro e w3 ⟨⟨q, rfl, hq1, hq2, hq3⟩, hB3⟩)
    have B3 : Hid (Below w.heap.size w w3) := bnext B2.out hB3
    have P3 : Hid (XAt w3 w.heap.size [.slice fa F fc, .slice da D dc, .int .i64 E]) := P2.out.later L2.out hB3
    have Q3 : Hid (XAt w3 q (nums (iotaZ F))) := hq3
    have L3 : Hid (w.heap.size < w3.heap.size ∧ q < w3.heap.size) := ⟨by have h1 := L2.out; have h2 := hB3.size; omega, hq2⟩
    clear hq1 hq2 hq3 hB3 p0 p1 p2 P2 B2 L2 AC'
    go_upto_region 5 with fail
    simp only [hk]
    have hkl : k ≤ F := by omega
    clear hw1 ha0 ha1 hk
    obtain ⟨i0, hi, hz0, hz1, hz2⟩ := info_parts intI
    have SD : Hid (∀ W, Below w3.heap.size w3 W → ∀ ad, (if F = k then some ⟨q, 0, none⟩ else some ⟨q, k, none⟩ : Option Addr) = some ad → ∀ j u, (nums ((iotaZ F).drop k))[j]? = some u → W.cell? (ad.add j) = some u) := fun W hW ad e j u hu => by
      rw [if_neg (by omega)] at e
      simp only [Option.some.injEq] at e; subst e
      rw [show (⟨q, k, none⟩ : Addr).add j = ⟨q, k + j, none⟩ from by cases j <;> simp [Addr.add]]
      refine (Q3.out.later L3.out.2 hW).1 (k + j) u ?_
      unfold nums at hu ⊢
      rw [List.getElem?_map, List.getElem?_drop] at hu
      rw [List.getElem?_map]; exact hu
    have ST : Hid (∀ W, Below w3.heap.size w3 W → ∀ ad, (some ⟨q, 0, none⟩ : Option Addr) = some ad → ∀ j u, (nums ((iotaZ F).take k))[j]? = some u → W.cell? (ad.add j) = some u) := fun W hW ad e j u hu => by
      simp only [Option.some.injEq] at e; subst e
      rw [show (⟨q, 0, none⟩ : Addr).add j = ⟨q, j, none⟩ from by cases j <;> simp [Addr.add]]
      refine (Q3.out.later L3.out.2 hW).1 j u ?_
      unfold nums at hu ⊢
      rw [List.getElem?_map, List.getElem?_take] at hu
      rw [List.getElem?_map]
      split at hu
      · exact hu
      · simp at hu
    have OL : Hid (((w3.alloc (.cells #[] 3)).drew).ownsRow w3.heap.size 3 1 (.slice (some ⟨w3.heap.size, 0, none⟩) 0 0) 0 []) := World.ownsRow.drew (World.ownsRow_lit w3 #[] 0 (Nat.le_refl _) (by decide) rfl)
    have BL : Hid (Below w3.heap.size w3 (w3.alloc (.cells #[] 3)).drew) := (keep_alloc8 (Below.refl _ _) _).drew
    go_region_law (first
      | (refine step_append_all _ rfl (.tmp 35) (.tmp 38) 26 rfl w3.heap.size 3 i0 _ 1 8 Try.underlying26 hi hz0 hz1 hz2 rfl (by decide) (.slice (some ⟨w3.heap.size, 0, none⟩) 0 0) 0 [] (by go_simp) (by first | exact OL.out | exact World.ownsRow_lit w3 #[] 0 (Nat.le_refl _) (by decide) rfl) (if F = k then some ⟨q, 0, none⟩ else some ⟨q, k, none⟩) (F - k) (F - k) (nums ((iotaZ F).drop k)) (by go_simp) (by rw [nums_len, List.length_drop, iota_len, Nat.mul_one]) (fun e => by rw [if_neg (by omega)] at e; cases e) (SD.out _ (by first | exact BL.out | exact keep_alloc8 (Below.refl _ _) _)) (by intro u hu; obtain ⟨x, -, rfl⟩ := List.mem_map.mp hu; rfl) (by unfold maxLen; omega) (by omega) (by simp) ?_; intro a5 c5 w5 own5 gr5)
      | (refine step_append_all _ rfl (.tmp 39) (.tmp 42) 26 rfl w3.heap.size 3 i0 _ 1 8 Try.underlying26 hi hz0 hz1 hz2 rfl (by decide) (.slice a5 (0 + (F - k)) c5) (0 + (F - k)) ([] ++ nums ((iotaZ F).drop k)) (by go_simp) own5 (some ⟨q, 0, none⟩) k F (nums ((iotaZ F).take k)) (by go_simp) (by rw [nums_len, List.length_take, iota_len, Nat.mul_one]; omega) (fun e => by cases e) (ST.out _ (BL.out.trans (below_grown' gr5 (fun b e => Nat.le_of_eq (Option.some.inj e)) (by simp)))) (by intro u hu; obtain ⟨x, -, rfl⟩ := List.mem_map.mp hu; rfl) (by unfold maxLen; omega) (by omega) (by have := gr5.size; simp at this; omega) ?_; intro a6 c6 w6 own6 gr6))
    have e1 : 0 + (F - k) + k = F := by omega
    have e2 : [] ++ nums ((iotaZ F).drop k) ++ nums ((iotaZ F).take k) = nums (rotZ F k) := by simp [nums, rotZ]
    rw [e1, e2] at own6
    have RN : Hid (IsNums w6 (.slice a6 F c6) (rotZ F k)) := own_nums' own6
    have B36 : Hid (Below w3.heap.size w3 w6) := (BL.out.trans (below_grown' gr5 (fun b e => Nat.le_of_eq (Option.some.inj e)) (by simp))).trans (below_grown' gr6 (fun b e => (own5.lt b e).1) (by have := gr5.size; simp at this; omega))
    have QN : Hid (∀ W, Below w3.heap.size w3 W → IsNums W (.slice (some ⟨q, 0, none⟩) F F) (iotaZ F)) := fun W hW => by
      have h := nums_at (Q3.out.later L3.out.2 hW) (by rw [iota_len]; unfold maxLen; omega)
      rw [iota_len] at h; exact h
    have P6 : Hid (XAt w6 w.heap.size [.slice fa F fc, .slice da D dc, .int .i64 E]) := P3.out.later L3.out.1 B36.out
    have B6 : Hid (Below w.heap.size w w6) := bnext B3.out B36.out
    have L6 : Hid (w.heap.size < w6.heap.size) := by have h1 := L3.out.1; have h2 := B36.out.size; show _ < _; omega
    obtain ⟨F2, l2, s2, hee, h00⟩ := plan_two (p := p) (k := k) (by rw [EF.out]; exact hkF)
    rw [EF.out] at l2 s2 hee h00
    have HL2 : Hid (F2.length = F) := l2
    have HS2 : Hid (∀ (j : Nat) (f : Int), (rotZ F k)[j]? = some f → F2[f.toNat]? = some (sumN p.codes (rotZ F k) j)) := s2
    have PC1 : Hid (∀ W, Below w3.heap.size w3 W → Calls Try.prog 10 #[.agg #[.slice fa F fc, .slice da D dc, .int .i64 E], .slice (some ⟨q, 0, none⟩) F F] W fun e w' => PlanPost W.heap.size (planZ p (iotaZ F)) e w' ∧ Below W.heap.size W w') := fun W hW => PC'.out W _ _ (bnext B3.out hW) (QN.out W hW) (by rw [iota_len]; omega)
    have PC2 : Hid (∀ W, Below w6.heap.size w6 W → Calls Try.prog 10 #[.agg #[.slice fa F fc, .slice da D dc, .int .i64 E], .slice a6 F c6] W fun e w' => PlanPost W.heap.size (planZ p (rotZ F k)) e w' ∧ Below W.heap.size W w') := fun W hW => PC'.out W _ _ (bnext B6.out hW) (RN.out.later hW) (by rw [rot_len (by omega)]; omega)
    generalize planZ p (iotaZ F) = R1 at hee h00 PC1
    generalize planZ p (rotZ F k) = R2 at hee h00 PC2
    obtain ⟨er, x1⟩ := R1
    obtain ⟨er2, x2⟩ := R2
    dsimp only at hee h00
    subst hee
    have H00 : Hid (er2 = 0 → ∃ F1 D T b w, x1 = ⟨F1, D, T, b, w⟩ ∧ x2 = ⟨F2, D, T, b, w⟩) := h00
    clear h00 l2 s2 own5 own6 gr5 gr6 OL BL SD ST hi hz0 hz1 hz2 P3 PC' e2
    have p0 := P6.out.1 0 _ rfl
    have p1 := P6.out.1 1 _ rfl
    have p2 := P6.out.1 2 _ rfl
    go_upto_region 6 with fail
    try rw [e1]
    try simp only [Nat.zero_add, Nat.sub_add_cancel hkl]
    clear e1
    go_upto_region 7 with (go_at_call 10; refine (PC1.out _ B36.out).mono ?_; rintro e w7 ⟨hpp, hB7⟩; obtain ⟨xa, xn, xc, xb, xm, xd, xw, xy, xz, rfl, hpl⟩ := post_open hpp; clear hpp)
    obtain ⟨w8, e8⟩ : ∃ w8, w7.alloc (.cells #[.slice xa xn xc, .slice xb xm xd, .int .i64 xw, .int .i64 xy, .int .i64 xz] 30) = w8 := ⟨_, rfl⟩
    have U78 : Below w7.heap.size w7 w8 := by rw [← e8]; exact keep_alloc8 (Below.refl _ _) _
    have U68 : Hid (Below w6.heap.size w6 w8) := bnext hB7 U78
    have X8 : Hid (XAt w8 w7.heap.size [.slice xa xn xc, .slice xb xm xd, .int .i64 xw, .int .i64 xy, .int .i64 xz] ∧ w7.heap.size < w8.heap.size) := by rw [← e8]; exact ⟨XAt.new w7 _ _, by simp⟩
    have HPL : Hid (IsPlan w6.heap.size w8 (.agg #[.slice xa xn xc, .slice xb xm xd, .int .i64 xw, .int .i64 xy, .int .i64 xz]) x1) := hpl.later U78
    go_upto_region 7 with fail
    try rw [e8]
    clear e8 U78 hB7 hpl p0 p1 p2
    generalize w7.heap.size = xp at X8 ⊢
    have P8 : Hid (XAt w8 w.heap.size [.slice fa F fc, .slice da D dc, .int .i64 E]) := P6.out.later L6.out U68.out
    have p0 := P8.out.1 0 _ rfl
    have p1 := P8.out.1 1 _ rfl
    have p2 := P8.out.1 2 _ rfl
    go_upto_region 8 with (go_at_call 10; refine (PC2.out _ U68.out).mono ?_; rintro e w9 ⟨hpp, hB9⟩; obtain ⟨ya, yn, yc, yb, ym, yd, yw, yy, yz, rfl, hpl⟩ := post_open hpp; clear hpp)
    obtain ⟨w10, e10⟩ : ∃ w10, w9.alloc (.cells #[.slice ya yn yc, .slice yb ym yd, .int .i64 yw, .int .i64 yy, .int .i64 yz] 30) = w10 := ⟨_, rfl⟩
    have U910 : Below w9.heap.size w9 w10 := by rw [← e10]; exact keep_alloc8 (Below.refl _ _) _
    have U810 : Hid (Below w8.heap.size w8 w10) := bnext hB9 U910
    have Y10 : Hid (XAt w10 w9.heap.size [.slice ya yn yc, .slice yb ym yd, .int .i64 yw, .int .i64 yy, .int .i64 yz]) := by rw [← e10]; exact XAt.new w9 _ _
    have X10 : Hid (XAt w10 xp [.slice xa xn xc, .slice xb xm xd, .int .i64 xw, .int .i64 xy, .int .i64 xz]) := X8.out.1.later X8.out.2 U810.out
    have HQL : Hid (IsPlan w8.heap.size w10 (.agg #[.slice ya yn yc, .slice yb ym yd, .int .i64 yw, .int .i64 yy, .int .i64 yz]) x2) := hpl.later U910
    have HPL10 : Hid (IsPlan w6.heap.size w10 (.agg #[.slice xa xn xc, .slice xb xm xd, .int .i64 xw, .int .i64 xy, .int .i64 xz]) x1) := HPL.out.later U810.out
    have B10 : Hid (Below w.heap.size w w10) := bnext (bnext B6.out U68.out) U810.out
    have P10 : Hid (XAt w10 w.heap.size [.slice fa F fc, .slice da D dc, .int .i64 E]) := P8.out.later (by have h1 := L6.out; have h2 := U68.out.size; omega) U810.out
    have RN10 : Hid (IsNums w10 (.slice a6 F c6) (rotZ F k)) := (RN.out.later U68.out).later U810.out
    go_upto_region 8 with fail
    try rw [e10]
    clear e10 U910 hB9 hpl p0 p1 p2 P8 X8 HPL PC1 PC2 RN P6 B6 L6
    generalize w9.heap.size = yp at Y10 ⊢
    have t0 : (er2 != er2) = false := by simp
    by_cases hz : er2 = 0
    rotate_left
    · have t1 : (er2 != 0) = true := by simpa using hz
      clear hz
      go_wp2
      go_ret
      exact ⟨rfl, B10.out⟩
    subst hz
    obtain ⟨F1, DD, T, b, wt, rfl, rfl⟩ := H00.out rfl
    obtain ⟨vc, vd, hv, hc, hd, -⟩ := HQL.out
    simp only [Value.agg.injEq, Array.mk.injEq, List.cons.injEq, and_true, Value.int.injEq, true_and] at hv
    obtain ⟨rfl, rfl, rfl, rfl, rfl⟩ := hv
    obtain ⟨vc', vd', hv, hc', hd', -⟩ := HPL10.out
    simp only [Value.agg.injEq, Array.mk.injEq, List.cons.injEq, and_true, Value.int.injEq, true_and] at hv
    obtain ⟨rfl, rfl, rfl, rfl, rfl⟩ := hv
    have IC : Hid (∀ W, Below w10.heap.size w10 W → Calls Try.prog 14 #[.slice xb xm xd, .slice yb ym yd] W fun e w' => Says e (DD = DD) ∧ Below W.heap.size W w') := fun W hW => rints_any (hd'.isNums.later hW) (hd.isNums.later hW)
    obtain ⟨hyn, YC⟩ := row_cell hc
    dsimp only at hyn YC
    rw [HL2.out] at hyn
    replace hyn := hyn.symm
    subst hyn
    have CY : Hid (∀ i, i < F → ∃ g x, ya = some ⟨g, 0, none⟩ ∧ F2[i]? = some x ∧ w10.cell? ⟨g, i, none⟩ = some (.int .i64 x)) := YC
    obtain ⟨oa, oc, heq, -, -, ox⟩ := LstA.open RN10.out
    rw [rot_len hkl] at heq ox
    simp only [Value.slice.injEq] at heq
    obtain ⟨rfl, -, rfl⟩ := heq
    have OX : Hid (∀ j, j < F → ∃ b off x, a6 = some ⟨b, off, none⟩ ∧ Any8 b ∧ (rotZ F k)[j]? = some x ∧ NumAt .i64 w10 b (off + j * 1) x) := ox
    have SU : Hid (∀ j : Nat, 0 ≤ sumN p.codes (rotZ F k) j ∧ sumN p.codes (rotZ F k) j ≤ j * 70000) := fun j => ⟨sum_up _ _ j, sum_le _ HM.out.2.2.1 j⟩
    clear ox YC hc hd hc' hd' HQL HPL10 RN10 H00
    go_wp2
    go_loopw [12, 13] (fun at_ i wr => ∃ j : Nat, j ≤ F ∧ i = .int .i64 j ∧ at_ = .int .i64 (sumN p.codes (rotZ F k) j) ∧ Below w10.heap.size w10 wr) (fun _ i _ => F - (intOf i).toNat)
    case atStart => exact ⟨0, Nat.zero_le _, rfl, rfl, Below.refl _ _⟩
    case round =>
      obtain ⟨j, hj, rfl, rfl, hbel⟩ := hrel
      have HB : Hid (Below w10.heap.size w10 wr) := hbel
      clear hbel
      obtain ⟨u0, u1⟩ := SU.out j
      by_cases hjF : j < F
      · have hjF' : (j : Int) < F := by omega
        obtain ⟨ob, oo, f, rfl, -, hf, o0⟩ := OX.out j hjF
        rw [Nat.mul_one] at o0
        obtain ⟨-, hfe⟩ := rot_some hkF hf
        obtain ⟨fi, hfi⟩ : ∃ fi : Nat, (if j < F - k then k + j else j - (F - k)) = fi := ⟨_, rfl⟩
        have hfF : fi < F := by rw [← hfi]; split <;> omega
        rw [hfi] at hfe
        subst hfe
        have hfF' : (fi : Int) < F := by omega
        have hs2 := HS2.out j fi hf
        rw [Int.toNat_natCast] at hs2
        obtain ⟨g, a, rfl, hga, hgc⟩ := CY.out fi hfF
        rw [hs2] at hga
        obtain rfl := Option.some.inj hga
        obtain ⟨fb, fo, n, rfl, -, hn, a1', c1, a2, m2, c2, s3, l3, -, -⟩ := FX.out fi hfF
        have hn7 : (n : Int) ≤ 70000 := by have := HM.out.2.2.1 n (List.mem_of_getElem? hn); omega
        have US : Hid (sumN p.codes (rotZ F k) (j + 1) = sumN p.codes (rotZ F k) j + n) := sum_step hf hn
        generalize sumN p.codes (rotZ F k) j = un at US u0 u1 hgc ⊢
        have p0 := cell_any (P10.out.1 0 _ rfl) HB.out
        have y0 := cell_any (Y10.out.1 0 _ rfl) HB.out
        have oc0 := cell_any o0 HB.out
        have gc0 := cell_any hgc HB.out
        have f3 := cell_any s3 (bnext B10.out HB.out)
        have m1 : (un != un) = false := by simp
        have hs : wrap64 (un + n) = un + n := IntWalk.wrap64_in _ (by omega)
        clear hf hfi hs2 hga hgc hn o0 s3 l3
        go_upto_region 16 with fail
        go_quiet (fail)
        go_upto_region 18 with fail
        go_quiet (fail)
        go_wp2
        go_roundw
        case rel => exact ⟨j + 1, by omega, by go_num, by rw [US.out], by first | exact below_drewN (below_drewN HB.out _) _ | exact below_drewN HB.out _⟩
        case measure => simp [intOf]; omega
      · have ej : F = j := by omega
        subst ej
        have x1 := cell_any (X10.out.1 1 _ rfl) HB.out
        have y1 := cell_any (Y10.out.1 1 _ rfl) HB.out
        have tt : ∀ x : Int, (x == x) = true := fun x => by simp
        go_wp2_with (go_at_call 14; refine (IC.out _ HB.out).mono ?_; rintro e w13 ⟨hs, hB13⟩; obtain rfl := hs.yes (by first | rfl | trivial); clear hs; have U13 : Below w10.heap.size w10 w13 := bnext HB.out hB13; have q2 := cell_any (X10.out.1 2 _ rfl) U13; have q3 := cell_any (X10.out.1 3 _ rfl) U13; have q4 := cell_any (X10.out.1 4 _ rfl) U13; have z2 := cell_any (Y10.out.1 2 _ rfl) U13; have z3 := cell_any (Y10.out.1 3 _ rfl) U13; have z4 := cell_any (Y10.out.1 4 _ rfl) U13)
        go_ret
        exact ⟨rfl, bnext B10.out (bnext HB.out hB13)⟩
end Go.Proofs.Ythhnmlhajfmhfaa
