/- PlacePlans' walk. -/
import Derived.Test.YthhnmlhajfmhfaaPlcLaw
import Derived.Test.YthhnmlhajfmhfaaPlcRef
import Derived.Test.YthhnmlhajfmhfaaPlcSame
namespace Go.Proofs.Ythhnmlhajfmhfaa
open Go.ChangeShapes Go.WideShapes Go.ChangeAt Go.RowKit
set_option linter.unusedVariables false
set_option linter.unusedSimpArgs false
theorem plan_one {base : Nat} {w : World} {a b : Option Addr} {n c m d : Nat} {x y z : Int} {p : PlanZ} (h : IsPlan base w (.agg #[.slice a n c, .slice b m d, .int .i64 x, .int .i64 y, .int .i64 z]) p) {W : World} (hW : Below w.heap.size w W) : IsPlan base W (.agg #[.slice a n c, .slice b m d, .int .i64 x, .int .i64 y, .int .i64 z]) p := h.later hW
set_option maxRecDepth 100000 in
set_option maxHeartbeats 8000000 in
theorem plans_walk {w : World} {v vo : Value} {p : ProgZ} {o : List Int} (h : IsP w v p) (ho : IsNums w vo o) :
    Calls Try.prog 3 #[v, vo] w fun e w' => e = .returned (.bool true) ∧ Below w.heap.size w w' := by
  have AW : Hid (∀ W, Calls Try.prog 8 #[] W fun e w' => e = .returned (.bool true) ∧ Below W.heap.size W w') := fun W => awake12 W
  have MC : Hid (∀ W, Below w.heap.size w W → Calls Try.prog 9 #[v] W fun e w' => OnlyIf e (MayZ p) ∧ Below W.heap.size W w') := fun W hW => may_any (h.later hW)
  have PC : Hid (MayZ p → o.length ≤ 400 → ∀ W, Below w.heap.size w W → Calls Try.prog 10 #[v, vo] W fun e w' => PlanPost W.heap.size (planZ p o) e w' ∧ Below W.heap.size W w') := fun hm hl W hW => plan_any (h.later hW) (ho.later hW) hm hl
  have RC : Hid (MayZ p → o.length ≤ 400 → ∀ W, Below w.heap.size w W → Calls Try.prog 11 #[v, vo] W fun e w' => PlanPost W.heap.size (planZ p o) e w' ∧ Below W.heap.size W w') := fun hm hl W hW => rplan_any (h.later hW) (ho.later hW) hm hl
  obtain ⟨fa, fc, da, dc, rfl, fx, dx⟩ := h.open
  obtain ⟨oa, oc, rfl, -, -, -⟩ := LstA.open ho
  have ol := LstA.len ho
  obtain ⟨F, eF⟩ : ∃ F, p.codes.length = F := ⟨_, rfl⟩
  obtain ⟨D, eD⟩ : ∃ D, p.datas.length = D := ⟨_, rfl⟩
  obtain ⟨E, eE⟩ : ∃ E, p.entry = E := ⟨_, rfl⟩
  obtain ⟨O, eO⟩ : ∃ O, o.length = O := ⟨_, rfl⟩
  rw [eF, eD, eE] at MC
  rw [eF, eD, eE, eO] at PC RC
  rw [eO] at ol
  rw [eF, eD, eE, eO]
  clear h ho eF eD eE eO fx dx
  generalize planZ p o = R at PC RC
  obtain ⟨er0, pl⟩ := R
  obtain ⟨W0, eW0⟩ : ∃ W0, w.alloc (.cells #[.slice fa F fc, .slice da D dc, .int .i64 E] 25) = W0 := ⟨_, rfl⟩
  have UP : Hid (Below w.heap.size w W0) := by rw [← eW0]; exact keep_alloc8 (Below.refl _ _) _
  have XA : Hid (XAt W0 w.heap.size [.slice fa F fc, .slice da D dc, .int .i64 E]) := by rw [← eW0]; exact XAt.new w _ _
  have ha : Hid (w.heap.size < W0.heap.size) := XA.out.lt (by simp)
  by_cases hO : 400 < (O : Int)
  · go_enter Try.func3, Try.ntmps3
    go_upto_region 1 with fail
    try rw [eW0]
    clear eW0
    go_wp2_with (first
      | (go_at_call 8; have q := hB2; refine (AW.out _).mono ?_; rintro e w3 ⟨rfl, hB3⟩)
      | (go_at_call 8; refine (AW.out _).mono ?_; rintro e w1 ⟨rfl, hB1⟩; have p0 := (XA.out.later ha.out hB1).1 0 _ rfl; have p1 := (XA.out.later ha.out hB1).1 1 _ rfl; have p2 := (XA.out.later ha.out hB1).1 2 _ rfl)
      | (go_at_call 9; refine (MC.out _ (bnext UP.out hB1)).mono ?_; rintro e w2 ⟨⟨b, rfl, hb⟩, hB2⟩; cases b))
    all_goals
      go_ret
      exact ⟨rfl, bnext UP.out (bnext hB1 (bnext hB2 hB3))⟩
  · have hO2 : (O : Int) ≤ 400 := by omega
    have hO3 : decide (400 < (O : Int)) = false := by simpa using hO
    clear hO
    go_enter Try.func3, Try.ntmps3
    go_upto_region 1 with fail
    try rw [eW0]
    clear eW0
    go_upto_region 3 with (first
      | (go_at_call 8; have q := hB2; refine (AW.out _).mono ?_; rintro e w3 ⟨rfl, hB3⟩)
      | (go_at_call 8; refine (AW.out _).mono ?_; rintro e w1 ⟨rfl, hB1⟩; have p0 := (XA.out.later ha.out hB1).1 0 _ rfl; have p1 := (XA.out.later ha.out hB1).1 1 _ rfl; have p2 := (XA.out.later ha.out hB1).1 2 _ rfl)
      | (go_at_call 9; refine (MC.out _ (bnext UP.out hB1)).mono ?_; rintro e w2 ⟨⟨b, rfl, hb⟩, hB2⟩; cases b))
    · go_ret
      exact ⟨rfl, bnext UP.out (bnext hB1 (bnext hB2 hB3))⟩
    have hm : MayZ p := hb trivial
    have PC' : Hid (∀ W, Below w.heap.size w W → Calls Try.prog 10 #[.agg #[.slice fa F fc, .slice da D dc, .int .i64 E], .slice oa O oc] W fun e w' => PlanPost W.heap.size (er0, pl) e w' ∧ Below W.heap.size W w') := PC.out hm (by omega)
    have RC' : Hid (∀ W, Below w.heap.size w W → Calls Try.prog 11 #[.agg #[.slice fa F fc, .slice da D dc, .int .i64 E], .slice oa O oc] W fun e w' => PlanPost W.heap.size (er0, pl) e w' ∧ Below W.heap.size W w') := RC.out hm (by omega)
    have B2 : Hid (Below w.heap.size w w2) := bnext UP.out (bnext hB1 hB2)
    have P2 : Hid (XAt w2 w.heap.size [.slice fa F fc, .slice da D dc, .int .i64 E]) := (XA.out.later ha.out hB1).later (Nat.lt_of_lt_of_le ha.out hB1.size) hB2
    have L2 : Hid (w.heap.size < w2.heap.size) := by have h1 := ha.out; have h2 := hB1.size; have h3 := hB2.size; show _ < _; omega
    clear hb hm PC RC MC AW UP XA hB1 hB2 ha p0 p1 p2
    have p0 := P2.out.1 0 _ rfl
    have p1 := P2.out.1 1 _ rfl
    have p2 := P2.out.1 2 _ rfl
    go_upto_region 4 with (go_at_call 10; refine (PC'.out _ B2.out).mono ?_; rintro e w3 ⟨hpp, hB3⟩; obtain ⟨xa, xn, xc, xb, xm, xd, xw, xy, xz, rfl, hpl⟩ := post_open hpp; clear hpp)
    obtain ⟨w4, e4⟩ : ∃ w4, w3.alloc (.cells #[.slice xa xn xc, .slice xb xm xd, .int .i64 xw, .int .i64 xy, .int .i64 xz] 30) = w4 := ⟨_, rfl⟩
    have U34 : Below w3.heap.size w3 w4 := by rw [← e4]; exact keep_alloc8 (Below.refl _ _) _
    have X4 : Hid (XAt w4 w3.heap.size [.slice xa xn xc, .slice xb xm xd, .int .i64 xw, .int .i64 xy, .int .i64 xz] ∧ w3.heap.size < w4.heap.size) := by rw [← e4]; exact ⟨XAt.new w3 _ _, by simp⟩
    have P4 : Hid (XAt w4 w.heap.size [.slice fa F fc, .slice da D dc, .int .i64 E]) := P2.out.later L2.out (bnext hB3 U34)
    have B4 : Hid (Below w.heap.size w w4) := bnext B2.out (bnext hB3 U34)
    have HPL : Hid (IsPlan w2.heap.size w4 (.agg #[.slice xa xn xc, .slice xb xm xd, .int .i64 xw, .int .i64 xy, .int .i64 xz]) pl) := hpl.later U34
    go_upto_region 4 with fail
    try rw [e4]
    clear e4 U34 hB3 hpl p0 p1 p2 P2 L2 PC'
    generalize w3.heap.size = xp at X4 ⊢
    have p0 := P4.out.1 0 _ rfl
    have p1 := P4.out.1 1 _ rfl
    have p2 := P4.out.1 2 _ rfl
    go_upto_region 5 with (go_at_call 11; refine (RC'.out _ B4.out).mono ?_; rintro e w5 ⟨hpp, hB5⟩; obtain ⟨ya, yn, yc, yb, ym, yd, yw, yy, yz, rfl, hqpl⟩ := post_open hpp; clear hpp)
    obtain ⟨w6, e6⟩ : ∃ w6, w5.alloc (.cells #[.slice ya yn yc, .slice yb ym yd, .int .i64 yw, .int .i64 yy, .int .i64 yz] 30) = w6 := ⟨_, rfl⟩
    have U56 : Below w5.heap.size w5 w6 := by rw [← e6]; exact keep_alloc8 (Below.refl _ _) _
    have Y6 : Hid (XAt w6 w5.heap.size [.slice ya yn yc, .slice yb ym yd, .int .i64 yw, .int .i64 yy, .int .i64 yz]) := by rw [← e6]; exact XAt.new w5 _ _
    have X6 : Hid (XAt w6 xp [.slice xa xn xc, .slice xb xm xd, .int .i64 xw, .int .i64 xy, .int .i64 xz]) := X4.out.1.later X4.out.2 (bnext hB5 U56)
    have B6 : Hid (Below w.heap.size w w6) := bnext B4.out (bnext hB5 U56)
    have SC : Hid (Calls Try.prog 12 #[.agg #[.slice xa xn xc, .slice xb xm xd, .int .i64 xw, .int .i64 xy, .int .i64 xz], .agg #[.slice ya yn yc, .slice yb ym yd, .int .i64 yw, .int .i64 yy, .int .i64 yz]] w6 fun e w' => Says e (pl = pl) ∧ Below w6.heap.size w6 w') := rsame12_any (HPL.out.later (bnext hB5 U56)) (hqpl.later U56)
    go_upto_region 5 with fail
    try rw [e6]
    clear e6 U56 hB5 hqpl p0 p1 p2
    generalize w5.heap.size = yp at Y6 ⊢
    have x0 := X6.out.1 0 _ rfl
    have x1 := X6.out.1 1 _ rfl
    have x2 := X6.out.1 2 _ rfl
    have x3 := X6.out.1 3 _ rfl
    have x4 := X6.out.1 4 _ rfl
    have y0 := Y6.out.1 0 _ rfl
    have y1 := Y6.out.1 1 _ rfl
    have y2 := Y6.out.1 2 _ rfl
    have y3 := Y6.out.1 3 _ rfl
    have y4 := Y6.out.1 4 _ rfl
    have t1 : (er0 == er0) = true := by simp
    go_wp2_with (go_at_call 12; refine SC.out.mono ?_; rintro e w7 ⟨hs, hB7⟩; obtain rfl := hs.yes (by first | rfl | trivial); clear hs)
    go_ret
    exact ⟨rfl, bnext B6.out hB7⟩
end Go.Proofs.Ythhnmlhajfmhfaa
