/- PlaceKeeps' walk. -/
import Derived.Test.YthhnmlhajfmhfaaPlcPlansW
import Derived.Test.YthhnmlhajfmhfaaAppends
namespace Go.Proofs.Ythhnmlhajfmhfaa
open Go.ChangeShapes Go.WideShapes Go.ChangeAt Go.RowKit
set_option linter.unusedVariables false
set_option linter.unusedSimpArgs false
theorem own_nums {w : World} {base n c : Nat} {a : Option Addr} {l : List Int} (h : w.ownsRow base 3 1 (.slice a n c) n (nums l)) : IsNums w (.slice a n c) l := by
  have hn : l.length = n := by have := h.1; rw [nums_len, Nat.mul_one] at this; exact this
  subst hn
  rcases h.2 with ⟨e, h0⟩ | ⟨g, cap, cur, e, hb, hg, hnc, hcm, hcs, htake⟩
  · simp only [Value.slice.injEq] at e
    obtain ⟨rfl, -, rfl⟩ := e
    exact ⟨_, _, rfl, ⟨⟨by omega, fun _ => rfl⟩, by omega⟩, fun _ _ => trivial, .inl (List.eq_nil_of_length_eq_zero h0)⟩
  · simp only [Value.slice.injEq] at e
    obtain ⟨rfl, -, rfl⟩ := e
    refine ⟨_, _, rfl, ⟨⟨hnc, fun e => by cases e⟩, hcm⟩, fun _ _ => trivial, .inr ⟨g, 0, rfl, fun i x hi => ?_⟩⟩
    rw [Nat.zero_add, Nat.mul_one]
    exact (h.cellAt i (by have := get_lt hi; omega)).trans (nums_get hi)
/-- A row of so many numbers at g that may be written, or none. -/
def RW9 (B xp : Nat) (wr : World) (a : Option Addr) (n : Nat) : Prop := n = 0 ∨ ∃ g L, a = some ⟨g, 0, none⟩ ∧ B ≤ g ∧ g ≠ xp ∧ L.length = n ∧ XAt wr g (nums L)
theorem RW9.other {B xp : Nat} {wr : World} {b : Option Addr} {m g k : Nat} {v : Value} (h : RW9 B xp wr b m) (hn : ∀ g', b = some ⟨g', 0, none⟩ → g' ≠ g) : RW9 B xp (wr.setCell ⟨g, k, none⟩ v) b m := by
  rcases h with h | ⟨g', L, e, h1, h2, h3, h4⟩
  · exact .inl h
  · exact .inr ⟨g', L, e, h1, h2, h3, xat_other h4 (hn g' e) _⟩
theorem RW9.of {B xp : Nat} {w w' : World} {a : Option Addr} {n c : Nat} {l : List Int} (h : RowI B w (.slice a n c) l) (hx : w.heap.size ≤ xp) (hb : Below w.heap.size w w') : RW9 B xp w' a n := by
  obtain ⟨h1, h2⟩ := row_get h
  rcases Nat.eq_zero_or_pos n with h0 | h0
  · exact .inl h0
  · obtain ⟨g, e, -, h3, h4, h5⟩ := h2 h0
    exact .inr ⟨g, l, e, h3, by omega, h1.symm, h5.later h4 hb⟩
theorem below_grown {w w' : World} {B : Nat} {r : Option Nat} (h : w.grownBy w' r) (hr : ∀ b, r = some b → B ≤ b) (hB : B ≤ w.heap.size) : Below B w w' := ⟨h.os, h.tape, h.output, h.size, fun k hk => h.block k (by omega) (fun e => by have := hr k e.symm; omega)⟩
set_option maxRecDepth 100000 in
set_option maxHeartbeats 8000000 in
theorem keeps_walk {w : World} {v : Value} {p : ProgZ} (h : IsP w v p) :
    Calls Try.prog 6 #[v] w fun e w' => e = .returned (.bool true) ∧ Below w.heap.size w w' := by
  have AW : Hid (∀ W, Calls Try.prog 8 #[] W fun e w' => e = .returned (.bool true) ∧ Below W.heap.size W w') := fun W => awake12 W
  have MC : Hid (∀ W, Below w.heap.size w W → Calls Try.prog 9 #[v] W fun e w' => OnlyIf e (MayZ p) ∧ Below W.heap.size W w') := fun W hW => may_any (h.later hW)
  have AC : Hid (MayZ p → ∀ W, Below w.heap.size w W → Calls Try.prog 13 #[v] W fun e w' => (∃ g, e = .returned (.slice (some ⟨g, 0, none⟩) p.codes.length p.codes.length) ∧ W.heap.size ≤ g ∧ g < w'.heap.size ∧ XAt w' g (nums (iotaZ p.codes.length))) ∧ Below W.heap.size W w') := fun hm W hW => all_any (h.later hW) hm.1
  have PC : Hid (MayZ p → ∀ W vo, Below w.heap.size w W → IsNums W vo (iotaZ p.codes.length) → Calls Try.prog 10 #[v, vo] W fun e w' => PlanPost W.heap.size (planZ p (iotaZ p.codes.length)) e w' ∧ Below W.heap.size W w') := fun hm W vo hW ho => plan_any (h.later hW) ho hm (by rw [iota_len]; have := hm.1; omega)
  have RC : Hid (MayZ p → ∀ W vo, Below w.heap.size w W → IsNums W vo (iotaZ p.codes.length) → Calls Try.prog 11 #[v, vo] W fun e w' => PlanPost W.heap.size (planZ p (iotaZ p.codes.length)) e w' ∧ Below W.heap.size W w') := fun hm W vo hW ho => rplan_any (h.later hW) ho hm (by rw [iota_len]; have := hm.1; omega)
  obtain ⟨fa, fc, da, dc, rfl, fx, dx⟩ := h.open
  obtain ⟨F, eF⟩ : ∃ F, p.codes.length = F := ⟨_, rfl⟩
  obtain ⟨D, eD⟩ : ∃ D, p.datas.length = D := ⟨_, rfl⟩
  obtain ⟨E, eE⟩ : ∃ E, p.entry = E := ⟨_, rfl⟩
  rw [eF, eD, eE] at MC AC PC RC
  rw [eF, eD, eE]
  have HF : Hid (MayZ p → F ≤ 300) := fun hm => by rw [← eF]; exact hm.1
  clear h eF eD eE fx dx
  generalize planZ p (iotaZ F) = R at PC RC
  obtain ⟨er0, pl⟩ := R
  obtain ⟨W0, eW0⟩ : ∃ W0, w.alloc (.cells #[.slice fa F fc, .slice da D dc, .int .i64 E] 25) = W0 := ⟨_, rfl⟩
  have UP : Hid (Below w.heap.size w W0) := by rw [← eW0]; exact keep_alloc8 (Below.refl _ _) _
  have XA : Hid (XAt W0 w.heap.size [.slice fa F fc, .slice da D dc, .int .i64 E]) := by rw [← eW0]; exact XAt.new w _ _
  have ha : Hid (w.heap.size < W0.heap.size) := XA.out.lt (by simp)
  go_enter Try.func6, Try.ntmps6
  go_upto_region 1 with fail
  try rw [eW0]
  clear eW0
  go_upto_region 3 with (first
    | (go_at_call 8; have q := hB2; refine (AW.out _).mono ?_; rintro e w3 ⟨rfl, hB3⟩)
    | (go_at_call 8; refine (AW.out _).mono ?_; rintro e w1 ⟨rfl, hB1⟩; have p0 := (XA.out.later ha.out hB1).1 0 _ rfl; have p1 := (XA.out.later ha.out hB1).1 1 _ rfl; have p2 := (XA.out.later ha.out hB1).1 2 _ rfl)
    | (go_at_call 9; refine (MC.out _ (bnext UP.out hB1)).mono ?_; rintro e w2 ⟨⟨b, rfl, hb⟩, hB2⟩; cases b))
  · go_ret
    exact ⟨rfl, bnext UP.out (bnext hB1 (bnext hB2 hB3))⟩
  have hm : MayZ p := hb trivial
  have hF3 : (F : Int) ≤ 300 := by have := HF.out hm; omega
  have AC' : Hid (∀ W, Below w.heap.size w W → Calls Try.prog 13 #[.agg #[.slice fa F fc, .slice da D dc, .int .i64 E]] W fun e w' => (∃ g, e = .returned (.slice (some ⟨g, 0, none⟩) F F) ∧ W.heap.size ≤ g ∧ g < w'.heap.size ∧ XAt w' g (nums (iotaZ F))) ∧ Below W.heap.size W w') := AC.out hm
  have PC' : Hid (∀ W vo, Below w.heap.size w W → IsNums W vo (iotaZ F) → Calls Try.prog 10 #[.agg #[.slice fa F fc, .slice da D dc, .int .i64 E], vo] W fun e w' => PlanPost W.heap.size (er0, pl) e w' ∧ Below W.heap.size W w') := PC.out hm
  have RC' : Hid (∀ W vo, Below w.heap.size w W → IsNums W vo (iotaZ F) → Calls Try.prog 11 #[.agg #[.slice fa F fc, .slice da D dc, .int .i64 E], vo] W fun e w' => PlanPost W.heap.size (er0, pl) e w' ∧ Below W.heap.size W w') := RC.out hm
  have B2 : Hid (Below w.heap.size w w2) := bnext UP.out (bnext hB1 hB2)
  have P2 : Hid (XAt w2 w.heap.size [.slice fa F fc, .slice da D dc, .int .i64 E]) := (XA.out.later ha.out hB1).later (Nat.lt_of_lt_of_le ha.out hB1.size) hB2
  have L2 : Hid (w.heap.size < w2.heap.size) := by have h1 := ha.out; have h2 := hB1.size; have h3 := hB2.size; show _ < _; omega
  clear hb hm AC PC RC MC AW UP XA hB1 hB2 ha p0 p1 p2 HF
  have p0 := P2.out.1 0 _ rfl
  have p1 := P2.out.1 1 _ rfl
  have p2 := P2.out.1 2 _ rfl
  go_upto_region 4 with (go_at_call 13; refine (AC'.out _ B2.out).mono ?_; rintro e w3 ⟨⟨q, rfl, hq1, hq2, hq3⟩, hB3⟩)
  have B3 : Hid (Below w.heap.size w w3) := bnext B2.out hB3
  have P3 : Hid (XAt w3 w.heap.size [.slice fa F fc, .slice da D dc, .int .i64 E]) := P2.out.later L2.out hB3
  have Q3 : Hid (XAt w3 q (nums (iotaZ F))) := hq3
  have L3 : Hid (w.heap.size < w3.heap.size ∧ q < w3.heap.size) := ⟨by have h1 := L2.out; have h2 := hB3.size; omega, hq2⟩
  clear hq1 hq2 hq3 hB3 p0 p1 p2 P2 B2 L2 AC'
  obtain ⟨i0, hi, hz0, hz1, hz2⟩ := info_parts intI
  have SRC : Hid (∀ W, Below w3.heap.size w3 W → ∀ ad, (some ⟨q, 0, none⟩ : Option Addr) = some ad → ∀ j u, (nums (iotaZ F))[j]? = some u → W.cell? (ad.add j) = some u) := fun W hW ad e j u hu => by
    simp only [Option.some.injEq] at e; subst e
    rw [show (⟨q, 0, none⟩ : Addr).add j = ⟨q, j, none⟩ from by cases j <;> simp [Addr.add]]
    exact (Q3.out.later L3.out.2 hW).1 j u hu
  have AL3 : Hid (Below w3.heap.size w3 (w3.alloc (.cells #[] 3))) := keep_alloc8 (Below.refl _ _) _
  go_upto_region 5 with (at_builtin; refine wpList_append_all (w3.alloc (.cells #[] 3)) rfl (.tmp 23) (.tmp 24) 26 rfl w3.heap.size 3 i0 _ 1 8 Try.underlying26 hi hz0 hz1 hz2 rfl (by decide) _ 0 [] rfl (World.ownsRow_lit w3 #[] 0 (Nat.le_refl _) (by decide) rfl) (some ⟨q, 0, none⟩) F F (nums (iotaZ F)) rfl (by rw [nums_len, iota_len, Nat.mul_one]) (fun e => by cases e) (SRC.out _ AL3.out) (by intro u hu; obtain ⟨x, -, rfl⟩ := List.mem_map.mp hu; rfl) (by unfold maxLen; omega) (by omega) (by simp) ?_; intro a4 c4 w4 own4 gr4)
  rw [Nat.zero_add] at own4
  have WN : Hid (IsNums w4 (.slice a4 F c4) (iotaZ F)) := own_nums own4
  have B34 : Hid (Below w3.heap.size w3 w4) := (AL3.out).trans (below_grown gr4 (fun b e => Nat.le_of_eq (Option.some.inj e)) (by simp))
  have OQ : Hid (∀ W, Below w3.heap.size w3 W → IsNums W (.slice (some ⟨q, 0, none⟩) F F) (iotaZ F)) := fun W hW => by
    have h := nums_at (Q3.out.later L3.out.2 hW) (by rw [iota_len]; unfold maxLen; omega)
    rw [iota_len] at h; exact h
  have P4 : Hid (XAt w4 w.heap.size [.slice fa F fc, .slice da D dc, .int .i64 E]) := P3.out.later L3.out.1 B34.out
  have B4 : Hid (Below w.heap.size w w4) := bnext B3.out B34.out
  have L4 : Hid (w.heap.size < w4.heap.size) := by have h1 := L3.out.1; have h2 := B34.out.size; show _ < _; omega
  clear own4 gr4 SRC AL3 P3 B3 hi hz0 hz1 hz2
  have p0 := P4.out.1 0 _ rfl
  have p1 := P4.out.1 1 _ rfl
  have p2 := P4.out.1 2 _ rfl
  go_upto_region 6 with (go_at_call 10; refine (PC'.out _ _ B4.out (OQ.out _ B34.out)).mono ?_; rintro e w5 ⟨hpp, hB5⟩; obtain ⟨xa, xn, xc, xb, xm, xd, xw, xy, xz, rfl, hpl⟩ := post_open hpp; clear hpp)
  obtain ⟨w6, e6⟩ : ∃ w6, w5.alloc (.cells #[.slice xa xn xc, .slice xb xm xd, .int .i64 xw, .int .i64 xy, .int .i64 xz] 30) = w6 := ⟨_, rfl⟩
  have U56 : Below w5.heap.size w5 w6 := by rw [← e6]; exact keep_alloc8 (Below.refl _ _) _
  obtain ⟨vc, vd, hv, hc, hd, hap⟩ := hpl
  simp only [Value.agg.injEq, Array.mk.injEq, List.cons.injEq, and_true] at hv
  obtain ⟨rfl, rfl, -⟩ := hv
  have hxn := LstA.len hc.isNums
  have hxm := LstA.len hd.isNums
  rw [← (row_get hc).1] at hxn
  rw [← (row_get hd).1] at hxm
  have AP : Hid (∀ g g' : Nat, xa = some ⟨g, 0, none⟩ → xb = some ⟨g', 0, none⟩ → g ≠ g') := fun g g' e1 e2 => hap ⟨g, 0, none⟩ _ _ ⟨g', 0, none⟩ _ _ (by rw [e1]) (by rw [e2])
  have KS0 : Hid (Below w4.heap.size w4 w6 ∧ XAt w6 w5.heap.size [.slice xa xn xc, .slice xb xm xd, .int .i64 xw, .int .i64 xy, .int .i64 xz] ∧ RW9 w4.heap.size w5.heap.size w6 xa xn ∧ RW9 w4.heap.size w5.heap.size w6 xb xm) :=
    ⟨bnext hB5 U56, by rw [← e6]; exact XAt.new w5 _ _, RW9.of hc (Nat.le_refl _) U56, RW9.of hd (Nat.le_refl _) U56⟩
  go_upto_region 6 with fail
  try rw [e6]
  clear e6 U56 hB5 hc hd hap p0 p1 p2
  generalize w5.heap.size = xp at KS0 ⊢
  have x0 := KS0.out.2.1.1 0 _ rfl
  go_wp2
  clear x0
  go_loopw [7] (fun i wr => ∃ k : Nat, k ≤ xn ∧ i = .int .i64 k ∧ Below w4.heap.size w4 wr ∧ XAt wr xp [.slice xa xn xc, .slice xb xm xd, .int .i64 xw, .int .i64 xy, .int .i64 xz] ∧ RW9 w4.heap.size xp wr xa xn ∧ RW9 w4.heap.size xp wr xb xm) (fun i _ => xn - (intOf i).toNat)
  case atStart => exact ⟨0, Nat.zero_le _, rfl, KS0.out⟩
  case round =>
    obtain ⟨k, hk, rfl, hS⟩ := hrel
    have HS : Hid (Below w4.heap.size w4 wr ∧ XAt wr xp [.slice xa xn xc, .slice xb xm xd, .int .i64 xw, .int .i64 xy, .int .i64 xz] ∧ RW9 w4.heap.size xp wr xa xn ∧ RW9 w4.heap.size xp wr xb xm) := hS
    clear hS KS0
    have x0 := HS.out.2.1.1 0 _ rfl
    by_cases hlt : k < xn
    · have hlt' : (k : Int) < xn := by omega
      rcases HS.out.2.2.1 with h0 | ⟨g, L, rfl, hg1, hg2, hg3, hg4⟩
      · omega
      obtain ⟨x, hx⟩ := get_some (l := L) (k := k) (by omega)
      have g0 := hg4.1 k _ (nums_get hx)
      have g1 := hg4.2 k
      have HGG : Hid (w4.heap.size ≤ g ∧ g ≠ xp ∧ L.length = xn ∧ XAt wr g (nums L)) := ⟨hg1, hg2, hg3, hg4⟩
      clear hx hg1 hg2 hg3 hg4
      go_upto_region 8 with fail
      have HS4 : Hid (Below w4.heap.size w4 (wr.setCell ⟨g, k, none⟩ (.int .i64 (-9))) ∧ XAt (wr.setCell ⟨g, k, none⟩ (.int .i64 (-9))) xp [.slice (some ⟨g, 0, none⟩) xn xc, .slice xb xm xd, .int .i64 xw, .int .i64 xy, .int .i64 xz] ∧ RW9 w4.heap.size xp (wr.setCell ⟨g, k, none⟩ (.int .i64 (-9))) (some ⟨g, 0, none⟩) xn ∧ RW9 w4.heap.size xp (wr.setCell ⟨g, k, none⟩ (.int .i64 (-9))) xb xm) :=
        ⟨HS.out.1.setCell HGG.out.1 _, xat_other HS.out.2.1 HGG.out.2.1.symm _, (.inr ⟨g, L.set k (-9), rfl, HGG.out.1, HGG.out.2.1, by rw [List.length_set]; exact HGG.out.2.2.1, xnum_set HGG.out.2.2.2 (by have := HGG.out.2.2.1; omega) _⟩), HS.out.2.2.2.other (fun g' e q => AP.out _ _ rfl e q.symm)⟩
      generalize (wr.setCell ⟨g, k, none⟩ (.int .i64 (-9))) = w9 at HS4 ⊢
      go_wp2
      go_roundw
      case rel => exact ⟨k + 1, by omega, by go_num, HS4.out⟩
      case measure => simp [intOf]; omega
    · have ek : xn = k := by omega
      subst ek
      have KS0 := HS
      go_wp2
      clear x0 HS
      go_loopw [8] (fun i wr => ∃ k : Nat, k ≤ xm ∧ i = .int .i64 k ∧ Below w4.heap.size w4 wr ∧ XAt wr xp [.slice xa xn xc, .slice xb xm xd, .int .i64 xw, .int .i64 xy, .int .i64 xz] ∧ RW9 w4.heap.size xp wr xa xn ∧ RW9 w4.heap.size xp wr xb xm) (fun i _ => xm - (intOf i).toNat)
      case atStart => exact ⟨0, Nat.zero_le _, rfl, KS0.out⟩
      case round =>
        obtain ⟨k, hk, rfl, hS⟩ := hrel
        have HS : Hid (Below w4.heap.size w4 wr ∧ XAt wr xp [.slice xa xn xc, .slice xb xm xd, .int .i64 xw, .int .i64 xy, .int .i64 xz] ∧ RW9 w4.heap.size xp wr xa xn ∧ RW9 w4.heap.size xp wr xb xm) := hS
        clear hS KS0
        have x1 := HS.out.2.1.1 1 _ rfl
        by_cases hlt : k < xm
        · have hlt' : (k : Int) < xm := by omega
          rcases HS.out.2.2.2 with h0 | ⟨g, L, rfl, hg1, hg2, hg3, hg4⟩
          · omega
          obtain ⟨x, hx⟩ := get_some (l := L) (k := k) (by omega)
          have g0 := hg4.1 k _ (nums_get hx)
          have g1 := hg4.2 k
          have HGG : Hid (w4.heap.size ≤ g ∧ g ≠ xp ∧ L.length = xm ∧ XAt wr g (nums L)) := ⟨hg1, hg2, hg3, hg4⟩
          clear hx hg1 hg2 hg3 hg4
          go_upto_region 12 with fail
          have HS4 : Hid (Below w4.heap.size w4 (wr.setCell ⟨g, k, none⟩ (.int .i64 (-9))) ∧ XAt (wr.setCell ⟨g, k, none⟩ (.int .i64 (-9))) xp [.slice xa xn xc, .slice (some ⟨g, 0, none⟩) xm xd, .int .i64 xw, .int .i64 xy, .int .i64 xz] ∧ RW9 w4.heap.size xp (wr.setCell ⟨g, k, none⟩ (.int .i64 (-9))) xa xn ∧ RW9 w4.heap.size xp (wr.setCell ⟨g, k, none⟩ (.int .i64 (-9))) (some ⟨g, 0, none⟩) xm) :=
            ⟨HS.out.1.setCell HGG.out.1 _, xat_other HS.out.2.1 HGG.out.2.1.symm _, HS.out.2.2.1.other (fun g' e q => AP.out _ _ e rfl q), (.inr ⟨g, L.set k (-9), rfl, HGG.out.1, HGG.out.2.1, by rw [List.length_set]; exact HGG.out.2.2.1, xnum_set HGG.out.2.2.2 (by have := HGG.out.2.2.1; omega) _⟩)⟩
          generalize (wr.setCell ⟨g, k, none⟩ (.int .i64 (-9))) = w9 at HS4 ⊢
          go_wp2
          go_roundw
          case rel => exact ⟨k + 1, by omega, by go_num, HS4.out⟩
          case measure => simp [intOf]; omega
        · have ek : xm = k := by omega
          subst ek
          have B48 : Hid (Below w4.heap.size w4 wr) := HS.out.1
          have B38 : Hid (Below w3.heap.size w3 wr) := bnext B34.out B48.out
          have B8 : Hid (Below w.heap.size w wr) := bnext B4.out B48.out
          have P8 : Hid (XAt wr w.heap.size [.slice fa F fc, .slice da D dc, .int .i64 E]) := P4.out.later L4.out B48.out
          have WN8 : Hid (IsNums wr (.slice a4 F c4) (iotaZ F)) := WN.out.later B48.out
          have L8 : Hid (w.heap.size < wr.heap.size) := by have h1 := L4.out; have h2 := B48.out.size; show _ < _; omega
          have p0 := P8.out.1 0 _ rfl
          have p1 := P8.out.1 1 _ rfl
          have p2 := P8.out.1 2 _ rfl
          clear WN P4 B4 L4 B34
          go_upto_region 15 with (go_at_call 10; refine (PC'.out _ _ B8.out (OQ.out _ B38.out)).mono ?_; rintro e w9 ⟨hpp, hB9⟩; obtain ⟨ya, yn, yc, yb, ym, yd, yw, yy, yz, rfl, hpl⟩ := post_open hpp; clear hpp)
          obtain ⟨w10, e10⟩ : ∃ w10, w9.alloc (.cells #[.slice ya yn yc, .slice yb ym yd, .int .i64 yw, .int .i64 yy, .int .i64 yz] 30) = w10 := ⟨_, rfl⟩
          have U910 : Below w9.heap.size w9 w10 := by rw [← e10]; exact keep_alloc8 (Below.refl _ _) _
          have U810 : Hid (Below wr.heap.size wr w10) := bnext hB9 U910
          have Y10 : Hid (XAt w10 w9.heap.size [.slice ya yn yc, .slice yb ym yd, .int .i64 yw, .int .i64 yy, .int .i64 yz] ∧ w9.heap.size < w10.heap.size) := by rw [← e10]; exact ⟨XAt.new w9 _ _, by simp⟩
          have HPL : Hid (IsPlan wr.heap.size w10 (.agg #[.slice ya yn yc, .slice yb ym yd, .int .i64 yw, .int .i64 yy, .int .i64 yz]) pl) := hpl.later U910
          go_upto_region 15 with fail
          try rw [e10]
          clear e10 U910 hpl hB9 p0 p1 p2
          generalize w9.heap.size = yp at Y10 ⊢
          have P10 : Hid (XAt w10 w.heap.size [.slice fa F fc, .slice da D dc, .int .i64 E]) := P8.out.later L8.out U810.out
          have p0 := P10.out.1 0 _ rfl
          have p1 := P10.out.1 1 _ rfl
          have p2 := P10.out.1 2 _ rfl
          go_upto_region 16 with (go_at_call 11; refine (RC'.out _ _ (bnext B8.out U810.out) (OQ.out _ (bnext B38.out U810.out))).mono ?_; rintro e w11 ⟨hpp, hB11⟩; obtain ⟨za, zn, zc, zb, zm, zd, zw, zy, zz, rfl, hql⟩ := post_open hpp; clear hpp)
          obtain ⟨w12, e12⟩ : ∃ w12, w11.alloc (.cells #[.slice za zn zc, .slice zb zm zd, .int .i64 zw, .int .i64 zy, .int .i64 zz] 30) = w12 := ⟨_, rfl⟩
          have U1112 : Below w11.heap.size w11 w12 := by rw [← e12]; exact keep_alloc8 (Below.refl _ _) _
          have U1012 : Hid (Below w10.heap.size w10 w12) := bnext hB11 U1112
          have Z12 : Hid (XAt w12 w11.heap.size [.slice za zn zc, .slice zb zm zd, .int .i64 zw, .int .i64 zy, .int .i64 zz] ∧ w11.heap.size < w12.heap.size) := by rw [← e12]; exact ⟨XAt.new w11 _ _, by simp⟩
          have Y12 : Hid (XAt w12 yp [.slice ya yn yc, .slice yb ym yd, .int .i64 yw, .int .i64 yy, .int .i64 yz] ∧ yp < w12.heap.size) := ⟨Y10.out.1.later Y10.out.2 U1012.out, by have := Y10.out.2; have := U1012.out.size; omega⟩
          have HQL : Hid (IsPlan w10.heap.size w12 (.agg #[.slice za zn zc, .slice zb zm zd, .int .i64 zw, .int .i64 zy, .int .i64 zz]) pl) := hql.later U1112
          have SC : Hid (∀ W, Below w12.heap.size w12 W → Calls Try.prog 12 #[.agg #[.slice ya yn yc, .slice yb ym yd, .int .i64 yw, .int .i64 yy, .int .i64 yz], .agg #[.slice za zn zc, .slice zb zm zd, .int .i64 zw, .int .i64 zy, .int .i64 zz]] W fun e w' => Says e (pl = pl) ∧ Below W.heap.size W w') := fun W hW => rsame12_any ((HPL.out.later U1012.out).later hW) (HQL.out.later hW)
          have IC : Hid (Calls Try.prog 14 #[.slice (some ⟨q, 0, none⟩) F F, .slice a4 F c4] w12 fun e w' => Says e (iotaZ F = iotaZ F) ∧ Below w12.heap.size w12 w') := rints_any (OQ.out _ (bnext (bnext B38.out U810.out) U1012.out)) (WN8.out.later (bnext U810.out U1012.out))
          have B12 : Hid (Below w.heap.size w w12) := bnext (bnext B8.out U810.out) U1012.out
          go_upto_region 16 with fail
          try rw [e12]
          clear e12 U1112 hql hB11 p0 p1 p2
          generalize w11.heap.size = zp at Z12 ⊢
          have t1 : (er0 == er0) = true := by simp
          go_wp2_with (first
            | (go_at_call 14; refine IC.out.mono ?_; rintro e w13 ⟨hs, hB13⟩; obtain rfl := hs.yes (by first | rfl | trivial); clear hs; have y0 := (Y12.out.1.later Y12.out.2 hB13).1 0 _ rfl; have y1 := (Y12.out.1.later Y12.out.2 hB13).1 1 _ rfl; have y2 := (Y12.out.1.later Y12.out.2 hB13).1 2 _ rfl; have y3 := (Y12.out.1.later Y12.out.2 hB13).1 3 _ rfl; have y4 := (Y12.out.1.later Y12.out.2 hB13).1 4 _ rfl; have z0 := (Z12.out.1.later Z12.out.2 hB13).1 0 _ rfl; have z1 := (Z12.out.1.later Z12.out.2 hB13).1 1 _ rfl; have z2 := (Z12.out.1.later Z12.out.2 hB13).1 2 _ rfl; have z3 := (Z12.out.1.later Z12.out.2 hB13).1 3 _ rfl; have z4 := (Z12.out.1.later Z12.out.2 hB13).1 4 _ rfl)
            | (go_at_call 12; refine (SC.out _ hB13).mono ?_; rintro e w14 ⟨hs, hB14⟩; obtain rfl := hs.yes (by first | rfl | trivial); clear hs))
          go_ret
          exact ⟨rfl, bnext B12.out (bnext hB13 hB14)⟩
end Go.Proofs.Ythhnmlhajfmhfaa
