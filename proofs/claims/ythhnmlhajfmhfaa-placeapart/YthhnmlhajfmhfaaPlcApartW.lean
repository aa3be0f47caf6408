/- PlaceApart's walk. -/
import Derived.Test.YthhnmlhajfmhfaaPlcLaw
namespace Go.Proofs.Ythhnmlhajfmhfaa
open Go.ChangeShapes Go.WideShapes Go.ChangeAt Go.RowKit
set_option linter.unusedVariables false
set_option linter.unusedSimpArgs false
set_option maxRecDepth 100000 in
set_option maxHeartbeats 8000000 in
theorem apart_walk {w : World} {v vo : Value} {p : ProgZ} {o : List Int} (h : IsP w v p) (ho : IsNums w vo o) :
    Calls Try.prog 4 #[v, vo] w fun e w' => e = .returned (.bool true) ∧ Below w.heap.size w w' := by
  have AW : Hid (∀ W, Calls Try.prog 8 #[] W fun e w' => e = .returned (.bool true) ∧ Below W.heap.size W w') := fun W => awake12 W
  have MC : Hid (∀ W, Below w.heap.size w W → Calls Try.prog 9 #[v] W fun e w' => OnlyIf e (MayZ p) ∧ Below W.heap.size W w') := fun W hW => may_any (h.later hW)
  have PC : Hid (MayZ p → o.length ≤ 400 → ∀ W, Below w.heap.size w W → Calls Try.prog 10 #[v, vo] W fun e w' => PlanPost W.heap.size (planZ p o) e w' ∧ Below W.heap.size W w') := fun hm hl W hW => plan_any (h.later hW) (ho.later hW) hm hl
  obtain ⟨fa, fc, da, dc, rfl, fx, dx⟩ := h.open
  obtain ⟨oa, oc, rfl, -, -, -⟩ := LstA.open ho
  have ol := LstA.len ho
  obtain ⟨F, eF⟩ : ∃ F, p.codes.length = F := ⟨_, rfl⟩
  obtain ⟨D, eD⟩ : ∃ D, p.datas.length = D := ⟨_, rfl⟩
  obtain ⟨E, eE⟩ : ∃ E, p.entry = E := ⟨_, rfl⟩
  obtain ⟨O, eO⟩ : ∃ O, o.length = O := ⟨_, rfl⟩
  rw [eF, eD, eE] at MC
  rw [eF, eD, eE, eO] at PC
  rw [eF] at fx
  rw [eD] at dx
  rw [eO] at ol
  rw [eF, eD, eE, eO]
  have EF : Hid (p.codes.length = F ∧ p.datas.length = D ∧ p.entry = E ∧ o.length = O) := ⟨eF, eD, eE, eO⟩
  have FX : Hid (∀ k, k < F → ∃ b off x, fa = some ⟨b, off, none⟩ ∧ Any8 b ∧ p.codes[k]? = some x ∧ PfAt w b (off + k * 5) x) := fx
  have DX : Hid (∀ k, k < D → ∃ b off x, da = some ⟨b, off, none⟩ ∧ Any8 b ∧ p.datas[k]? = some x ∧ PdAt w b (off + k * 5) x) := dx
  clear h ho eF eD eE eO fx dx
  obtain ⟨W0, eW0⟩ : ∃ W0, w.alloc (.cells #[.slice fa F fc, .slice da D dc, .int .i64 E] 25) = W0 := ⟨_, rfl⟩
  have UP : Hid (Below w.heap.size w W0) := by rw [← eW0]; exact keep_alloc8 (Below.refl _ _) _
  have XA : Hid (XAt W0 w.heap.size [.slice fa F fc, .slice da D dc, .int .i64 E]) := by rw [← eW0]; exact XAt.new w _ _
  have ha : Hid (w.heap.size < W0.heap.size) := XA.out.lt (by simp)
  by_cases hO : 400 < (O : Int)
  · go_enter Try.func4, Try.ntmps4
    go_upto_region 1 with fail
    try rw [eW0]
    clear eW0
    go_wp2_with (first
      | (go_at_call 8; have q := hB2; refine (AW.out _).mono ?_; rintro e w3 ⟨rfl, hB3⟩)
      | (go_at_call 8; refine (AW.out _).mono ?_; rintro e w1 ⟨rfl, hB1⟩; have p0 := (XA.out.later ha.out hB1).1 0 _ rfl; have p1 := (XA.out.later ha.out hB1).1 1 _ rfl; have p2 := (XA.out.later ha.out hB1).1 2 _ rfl)
      | (go_at_call 9; refine (MC.out _ (bnext UP.out hB1)).mono ?_; rintro e w2 ⟨⟨b, rfl, hb⟩, hB2⟩; cases b))
    all_goals
      go_ret
      exact ⟨rfl, bnext UP.out (bnext hB1 (bnext hB2 hB3))⟩
  · have hO2 : (O : Int) ≤ 400 := by omega
    have hO3 : decide (400 < (O : Int)) = false := by simpa using hO
    clear hO
    go_enter Try.func4, Try.ntmps4
    go_upto_region 1 with fail
    try rw [eW0]
    clear eW0
    go_upto_region 3 with (first
      | (go_at_call 8; have q := hB2; refine (AW.out _).mono ?_; rintro e w3 ⟨rfl, hB3⟩)
      | (go_at_call 8; refine (AW.out _).mono ?_; rintro e w1 ⟨rfl, hB1⟩; have p0 := (XA.out.later ha.out hB1).1 0 _ rfl; have p1 := (XA.out.later ha.out hB1).1 1 _ rfl; have p2 := (XA.out.later ha.out hB1).1 2 _ rfl)
      | (go_at_call 9; refine (MC.out _ (bnext UP.out hB1)).mono ?_; rintro e w2 ⟨⟨b, rfl, hb⟩, hB2⟩; cases b))
    · go_ret
      exact ⟨rfl, bnext UP.out (bnext hB1 (bnext hB2 hB3))⟩
    have hm : MayZ p := hb trivial
    have HM : Hid (MayZ p) := hm
    have PC' : Hid (∀ W, Below w.heap.size w W → Calls Try.prog 10 #[.agg #[.slice fa F fc, .slice da D dc, .int .i64 E], .slice oa O oc] W fun e w' => PlanPost W.heap.size (planZ p o) e w' ∧ Below W.heap.size W w') := PC.out hm (by have := EF.out; omega)
    have B2 : Hid (Below w.heap.size w w2) := bnext UP.out (bnext hB1 hB2)
    have P2 : Hid (XAt w2 w.heap.size [.slice fa F fc, .slice da D dc, .int .i64 E]) := (XA.out.later ha.out hB1).later (Nat.lt_of_lt_of_le ha.out hB1.size) hB2
    have L2 : Hid (w.heap.size < w2.heap.size) := by have h1 := ha.out; have h2 := hB1.size; have h3 := hB2.size; show _ < _; omega
    clear hb hm PC MC AW UP XA hB1 hB2 ha p0 p1 p2
    have p0 := P2.out.1 0 _ rfl
    have p1 := P2.out.1 1 _ rfl
    have p2 := P2.out.1 2 _ rfl
    go_upto_region 4 with (go_at_call 10; refine (PC'.out _ B2.out).mono ?_; rintro e w3 ⟨hpp, hB3⟩; obtain ⟨xa, xn, xc, xb, xm, xd, xw, xy, xz, er, rfl, her, hpl⟩ := hpp.open; have HER : Hid (er = (planZ p o).1) := her; clear her hpp)
    obtain ⟨w4, e4⟩ : ∃ w4, w3.alloc (.cells #[.slice xa xn xc, .slice xb xm xd, .int .i64 xw, .int .i64 xy, .int .i64 xz] 30) = w4 := ⟨_, rfl⟩
    have U34 : Below w3.heap.size w3 w4 := by rw [← e4]; exact keep_alloc8 (Below.refl _ _) _
    have X4 : Hid (XAt w4 w3.heap.size [.slice xa xn xc, .slice xb xm xd, .int .i64 xw, .int .i64 xy, .int .i64 xz]) := by rw [← e4]; exact XAt.new w3 _ _
    have P4 : Hid (XAt w4 w.heap.size [.slice fa F fc, .slice da D dc, .int .i64 E]) := P2.out.later L2.out (bnext hB3 U34)
    have B4 : Hid (Below w.heap.size w w4) := bnext B2.out (bnext hB3 U34)
    have HPL : Hid (IsPlan w2.heap.size w4 (.agg #[.slice xa xn xc, .slice xb xm xd, .int .i64 xw, .int .i64 xy, .int .i64 xz]) (planZ p o).2) := hpl.later U34
    go_upto_region 4 with fail
    try rw [e4]
    clear e4 U34 hB3 hpl p0 p1 p2 P2 B2 L2 PC'
    generalize w3.heap.size = xp at X4 ⊢
    by_cases her : er = 0
    rotate_left
    · have hne : (er != 0) = true := by simpa using her
      clear her
      go_wp2
      go_ret
      exact ⟨rfl, B4.out⟩
    subst her
    obtain ⟨G, wd, hcode, -, hw, hr, hx⟩ := plan_is (p := p) (o := o) (x := (planZ p o).2) (by rw [HER.out])
    have HP := HPL.out
    rw [hx] at HP
    obtain ⟨vc, vd, hv, hc, hd, -⟩ := HP
    simp only [Value.agg.injEq, Array.mk.injEq, List.cons.injEq, and_true, Value.int.injEq, true_and] at hv
    obtain ⟨rfl, rfl, rfl, rfl, rfl⟩ := hv
    obtain ⟨hn, CX⟩ := row_cell hc
    obtain ⟨hm, DG⟩ := row_cell hd
    have hGl := (code_some hcode).1
    have hDl := rest_len p.datas
    dsimp only at hn hm
    rw [hGl, EF.out.1] at hn
    rw [hDl, EF.out.2.1] at hm
    replace hn := hn.symm
    replace hm := hm.symm
    subst hn
    subst hm
    have CFA : Hid (usedN p.codes G p.codes.length = xw ∧ (∀ (f : Nat) (a : Int) (n : Nat), G[f]? = some a → p.codes[f]? = some n → a = -1 ∨ (0 ≤ a ∧ a + n ≤ xw)) ∧ ∀ (f g : Nat) (a b : Int) (n m : Nat), f ≠ g → G[f]? = some a → G[g]? = some b → p.codes[f]? = some n → p.codes[g]? = some m → 0 ≤ a → 0 ≤ b → a + n ≤ b ∨ b + m ≤ a) := code_fact hcode
    have CX4 : Hid (∀ k, k < F → ∃ g x, xa = some ⟨g, 0, none⟩ ∧ G[k]? = some x ∧ w4.cell? ⟨g, k, none⟩ = some (.int .i64 x)) := CX
    have DG4 : Hid (∀ k, k < D → ∃ g x, xb = some ⟨g, 0, none⟩ ∧ (restN p.datas).1[k]? = some x ∧ w4.cell? ⟨g, k, none⟩ = some (.int .i64 x)) := DG
    have DF : Hid (∀ (j : Nat) (d : DatZ), p.datas[j]? = some d → ∃ a, (restN p.datas).1[j]? = some a ∧ 0 ≤ a ∧ a % d.align = 0 ∧ a + d.size ≤ (restN p.datas).2 ∧ (d.fixed = true → a + d.size ≤ writeZ p.datas) ∧ (d.fixed = false → writeZ p.datas ≤ a)) := fun j d h => dat_fact HM.out.2.2.2 h
    have DA : Hid (∀ (i j : Nat) (c d : DatZ) (a b : Int), p.datas[i]? = some c → p.datas[j]? = some d → i < j → (restN p.datas).1[i]? = some a → (restN p.datas).1[j]? = some b → a + c.size ≤ b ∨ b + d.size ≤ a) := fun i j c d a b h1 h2 h3 h4 h5 => dat_apart HM.out.2.2.2 h1 h2 h3 h4 h5
    have WM : Hid (writeZ p.datas % 16 = 0 ∧ 0 ≤ writeZ p.datas ∧ writeZ p.datas ≤ 65536) := ⟨write_mul _, by have := write_fix p.datas; have := write_nn HM.out.2.2.2; omega, by have := (pass_up HM.out.2.2.2 (fx := false) (D := (fixN p.datas).1) (b := writeZ p.datas) p.datas.length).1; have : (restN p.datas).2 = (passN false p.datas (fixN p.datas).1 (writeZ p.datas) p.datas.length).2 := rfl; omega⟩
    have hwm := WM.out
    have hGl' : Hid (G.length = F) := by rw [hGl]; exact EF.out.1
    have DOK : Hid (∀ d ∈ p.datas, 1 ≤ d.align ∧ d.align ≤ 16 ∧ 1 ≤ d.size ∧ d.size ≤ 4096) := HM.out.2.2.2
    have FOK : Hid ((∀ n ∈ p.codes, n ≤ 70000) ∧ F ≤ 300 ∧ D ≤ 300) := ⟨HM.out.2.2.1, by have := HM.out.1; have := EF.out; omega, by have := HM.out.2.1; have := EF.out; omega⟩
    generalize (restN p.datas).1 = DL at DG4 DF DA
    generalize (restN p.datas).2 = bt at DF hr X4 HPL ⊢
    generalize writeZ p.datas = wt at DF WM X4 HPL hwm ⊢
    clear hx hc hd CX DG hcode hGl hDl HPL HER HM
    have hF3 : (F : Int) ≤ 300 := by have := FOK.out; omega
    have hD3 : (D : Int) ≤ 300 := by have := FOK.out; omega
    have p1 := P4.out.1 1 _ rfl
    go_wp2
    go_loopw [7] (fun i wr => ∃ k : Nat, k ≤ D ∧ i = .int .i64 k ∧ Below w4.heap.size w4 wr) (fun i _ => D - (intOf i).toNat)
    case atStart => exact ⟨0, Nat.zero_le _, rfl, Below.refl _ _⟩
    case round =>
      obtain ⟨k, hk, rfl, hbel⟩ := hrel
      have HB : Hid (Below w4.heap.size w4 wr) := hbel
      clear hbel p1
      have p0 := cell_any (P4.out.1 0 _ rfl) HB.out
      have p1 := cell_any (P4.out.1 1 _ rfl) HB.out
      have x0 := cell_any (X4.out.1 0 _ rfl) HB.out
      have x1 := cell_any (X4.out.1 1 _ rfl) HB.out
      have x3 := cell_any (X4.out.1 3 _ rfl) HB.out
      have x4 := cell_any (X4.out.1 4 _ rfl) HB.out
      by_cases hlt : k < D
      · have hlt' : (k : Int) < D := by omega
        obtain ⟨q, off, x, rfl, -, hx, y0, y1, y2, y3, y4, -, -⟩ := DX.out k hlt
        obtain ⟨d1, d2, d3, d4⟩ := DOK.out x (List.mem_of_getElem? hx)
        obtain ⟨g, a, rfl, hga, hgc⟩ := DG4.out k hlt
        obtain ⟨a', ha', f1, f2, f3, f4, f5⟩ := DF.out k x hx
        rw [hga] at ha'
        obtain rfl := Option.some.inj ha'
        clear ha'
        have DAK : Hid (∀ (i : Nat) (c : DatZ) (b : Int), p.datas[i]? = some c → i < k → DL[i]? = some b → b + c.size ≤ a ∨ a + x.size ≤ b) := fun i c b h1 h2 h3 => DA.out i k c x b a h1 hx h2 h3 hga
        obtain ⟨al, fi, si, ba, bn, bc, ra, rn, rc⟩ := x
        dsimp only at *
        have UB : Hid (Below w.heap.size w wr) := bnext B4.out HB.out
        have z0 := cell_any y0 UB.out
        have z1 := cell_any y1 UB.out
        have z2 := cell_any y2 UB.out
        have z3 := cell_any y3 UB.out
        have z4 := cell_any y4 UB.out
        have gk := cell_any hgc HB.out
        clear y0 y1 y2 y3 y4 hx hga hgc
        have c1 : decide (a < 0) = false := by simp; omega
        have c2 : (a % al != 0) = false := by simpa using f2
        have hs : wrap64 (a + si) = a + si := IntWalk.wrap64_in _ (by omega)
        have c3 : decide (bt < a + si) = false := by simp; omega
        obtain ⟨w5, e5⟩ : ∃ w5, wr.alloc (.cells #[.int .i64 al, .bool fi, .int .i64 si, .slice ba bn bc, .slice ra rn rc] 39) = w5 := ⟨_, rfl⟩
        have U5 : Hid (Below w4.heap.size w4 w5) := by rw [← e5]; exact keep_alloc8 HB.out _
        have D5 : Hid (XAt w5 wr.heap.size [.int .i64 al, .bool fi, .int .i64 si, .slice ba bn bc, .slice ra rn rc]) := by rw [← e5]; exact XAt.new wr _ _
        have gk5 : w5.cell? ⟨g, k, none⟩ = some (.int .i64 a) := by rw [← e5]; exact cell_any gk (keep_alloc8 (Below.refl _ _) _)
        go_upto_region 10 with fail
        try rw [e5]
        clear e5 p0 p1 x0 x1 x3 x4 z0 z1 z2 z3 z4 gk HB UB
        have p1 := cell_any (P4.out.1 1 _ rfl) U5.out
        have x1 := cell_any (X4.out.1 1 _ rfl) U5.out
        have x3 := cell_any (X4.out.1 3 _ rfl) U5.out
        have x4 := cell_any (X4.out.1 4 _ rfl) U5.out
        have d0 := D5.out.1 0 _ rfl
        have d1' := D5.out.1 1 _ rfl
        have d2' := D5.out.1 2 _ rfl
        generalize wr.heap.size = db at D5 d0 d1' d2' ⊢
        have FI : Hid (∀ K : Prop, (fi = true → a + si ≤ wt → K) → (fi = false → wt ≤ a → K) → K) := fun K h1 h2 => by cases hfi : fi; exact h2 hfi (f5 hfi); exact h1 hfi (f4 hfi)
        clear f2 f4 f5
        refine FI.out _ (fun hfi hf4 => ?_) (fun hfi hf5 => ?_)
        · subst hfi
          have c4 : decide (wt < a + si) = false := by simp; omega
          go_upto_region 13 with fail
          go_wp2
          go_loopw [10] (fun i wx => ∃ j : Nat, j ≤ k ∧ i = .int .i64 j ∧ Below w5.heap.size w5 wx) (fun i _ => k - (intOf i).toNat)
          case atStart => exact ⟨0, Nat.zero_le _, rfl, Below.refl _ _⟩
          case round =>
            obtain ⟨j, hj, rfl, hbel⟩ := hrel
            have HB5 : Hid (Below w5.heap.size w5 wr) := hbel
            clear hbel
            by_cases hjk : j < k
            · have hjk' : (j : Int) < k := by omega
              have hj' : (j : Int) < D := by omega
              obtain ⟨q', off', c, hqq, -, hc, -, -, s2, -, -, -, -⟩ := DX.out j (by omega)
              simp only [Option.some.injEq, Addr.mk.injEq, and_true] at hqq
              obtain ⟨rfl, rfl⟩ := hqq
              obtain ⟨g', b, hgg, hgb, hgc⟩ := DG4.out j (by omega)
              simp only [Option.some.injEq, Addr.mk.injEq, and_true] at hgg
              subst hgg
              obtain ⟨b', hb', k1, -, k3, -, -⟩ := DF.out j c hc
              rw [hgb] at hb'
              obtain rfl := Option.some.inj hb'
              clear hb'
              have hap := DAK.out j c b hc hjk hgb
              have kc := (DOK.out c (List.mem_of_getElem? hc)).2.2.1
              have kd := (DOK.out c (List.mem_of_getElem? hc)).2.2.2
              have U45 : Hid (Below w4.heap.size w4 wr) := U5.out.trans (HB5.out.mono U5.out.size)
              have s2' := cell_any s2 (bnext B4.out U45.out)
              have gb := cell_any hgc U45.out
              generalize c.size = cs at s2' hap k3 kc kd
              clear s2 hc hgb hgc
              have p1' := cell_any p1 HB5.out
              have x1' := cell_any x1 HB5.out
              have d2x := cell_any d2' HB5.out
              have hs2 : wrap64 (b + cs) = b + cs := IntWalk.wrap64_in _ (by omega)
              rcases hap with hap | hap
              · have m1 : decide (a < b + cs) = false := by simp; omega
                go_upto_region 16 with fail
                go_quiet (fail)
                go_wp2
                go_roundw
                case rel => exact ⟨j + 1, by omega, by go_num, below_drewN HB5.out _⟩
                case measure => simp [intOf]; omega
              · have m1 : decide (a < b + cs) = true := by simp; omega
                have m2 : decide (b < a + si) = false := by simp; omega
                go_upto_region 16 with fail
                go_quiet (fail)
                go_wp2
                go_roundw
                case rel => exact ⟨j + 1, by omega, by go_num, below_drewN HB5.out _⟩
                case measure => simp [intOf]; omega
            · obtain rfl : j = k := by omega
              go_wp2
              go_roundw
              case rel => exact ⟨j + 1, by omega, by go_num, U5.out.trans (HB5.out.mono U5.out.size)⟩
              case measure => simp [intOf]; omega
        · subst hfi
          have c5 : decide (a < wt) = false := by simp; omega
          go_upto_region 13 with fail
          go_wp2
          go_loopw [10] (fun i wx => ∃ j : Nat, j ≤ k ∧ i = .int .i64 j ∧ Below w5.heap.size w5 wx) (fun i _ => k - (intOf i).toNat)
          case atStart => exact ⟨0, Nat.zero_le _, rfl, Below.refl _ _⟩
          case round =>
            obtain ⟨j, hj, rfl, hbel⟩ := hrel
            have HB5 : Hid (Below w5.heap.size w5 wr) := hbel
            clear hbel
            by_cases hjk : j < k
            · have hjk' : (j : Int) < k := by omega
              have hj' : (j : Int) < D := by omega
              obtain ⟨q', off', c, hqq, -, hc, -, -, s2, -, -, -, -⟩ := DX.out j (by omega)
              simp only [Option.some.injEq, Addr.mk.injEq, and_true] at hqq
              obtain ⟨rfl, rfl⟩ := hqq
              obtain ⟨g', b, hgg, hgb, hgc⟩ := DG4.out j (by omega)
              simp only [Option.some.injEq, Addr.mk.injEq, and_true] at hgg
              subst hgg
              obtain ⟨b', hb', k1, -, k3, -, -⟩ := DF.out j c hc
              rw [hgb] at hb'
              obtain rfl := Option.some.inj hb'
              clear hb'
              have hap := DAK.out j c b hc hjk hgb
              have kc := (DOK.out c (List.mem_of_getElem? hc)).2.2.1
              have kd := (DOK.out c (List.mem_of_getElem? hc)).2.2.2
              have U45 : Hid (Below w4.heap.size w4 wr) := U5.out.trans (HB5.out.mono U5.out.size)
              have s2' := cell_any s2 (bnext B4.out U45.out)
              have gb := cell_any hgc U45.out
              generalize c.size = cs at s2' hap k3 kc kd
              clear s2 hc hgb hgc
              have p1' := cell_any p1 HB5.out
              have x1' := cell_any x1 HB5.out
              have d2x := cell_any d2' HB5.out
              have hs2 : wrap64 (b + cs) = b + cs := IntWalk.wrap64_in _ (by omega)
              rcases hap with hap | hap
              · have m1 : decide (a < b + cs) = false := by simp; omega
                go_upto_region 16 with fail
                go_quiet (fail)
                go_wp2
                go_roundw
                case rel => exact ⟨j + 1, by omega, by go_num, below_drewN HB5.out _⟩
                case measure => simp [intOf]; omega
              · have m1 : decide (a < b + cs) = true := by simp; omega
                have m2 : decide (b < a + si) = false := by simp; omega
                go_upto_region 16 with fail
                go_quiet (fail)
                go_wp2
                go_roundw
                case rel => exact ⟨j + 1, by omega, by go_num, below_drewN HB5.out _⟩
                case measure => simp [intOf]; omega
            · obtain rfl : j = k := by omega
              go_wp2
              go_roundw
              case rel => exact ⟨j + 1, by omega, by go_num, U5.out.trans (HB5.out.mono U5.out.size)⟩
              case measure => simp [intOf]; omega
      · obtain rfl : k = D := by omega
        have UL : Hid (∀ i : Nat, 0 ≤ usedN p.codes G i ∧ usedN p.codes G i ≤ i * 70000) := fun i => ⟨used_up _ _ i, used_le _ FOK.out.1 i⟩
        go_wp2
        clear p1 x1 x3 x4
        go_loopw [11, 12] (fun n i wr => ∃ j : Nat, j ≤ F ∧ i = .int .i64 j ∧ n = .int .i64 (usedN p.codes G j) ∧ Below w4.heap.size w4 wr) (fun _ i _ => F - (intOf i).toNat)
        case atStart => exact ⟨0, Nat.zero_le _, rfl, rfl, HB.out⟩
        case round =>
          obtain ⟨i, hi, rfl, rfl, hbel⟩ := hrel
          have HB3 : Hid (Below w4.heap.size w4 wr) := hbel
          clear hbel p0 x0 HB
          obtain ⟨u0, u1⟩ := UL.out i
          have p0 := cell_any (P4.out.1 0 _ rfl) HB3.out
          have x0 := cell_any (X4.out.1 0 _ rfl) HB3.out
          by_cases hlt3 : i < F
          · have hlt3' : (i : Int) < F := by omega
            obtain ⟨q, off, n, rfl, -, hn, a1, c1, a2, m2, c2, s3, l3, -, -⟩ := FX.out i hlt3
            obtain ⟨g, a, rfl, hga, hgc⟩ := CX4.out i hlt3
            have hn7 : (n : Int) ≤ 70000 := by have := FOK.out.1 n (List.mem_of_getElem? hn); omega
            have hav := CFA.out.2.1 i a n hga hn
            have gk := cell_any hgc HB3.out
            have y3 := cell_any s3 (bnext B4.out HB3.out)
            have HGA : Hid (G[i]? = some a ∧ p.codes[i]? = some n) := ⟨hga, hn⟩
            clear hga hgc hn s3 l3
            rcases hav with rfl | ⟨hav, hav2⟩
            · have US : Hid (usedN p.codes G (i + 1) = usedN p.codes G i) := used_none' HGA.out.1 (by omega)
              generalize usedN p.codes G i = un at US u0 u1 ⊢
              go_wp2
              go_roundw
              case rel => exact ⟨i + 1, by omega, by go_num, by rw [US.out], HB3.out⟩
              case measure => simp [intOf]; omega
            · have US : Hid (usedN p.codes G (i + 1) = usedN p.codes G i + n) := used_some HGA.out.1 HGA.out.2 hav
              generalize usedN p.codes G i = un at US u0 u1 ⊢
              have b1 : decide (a < 0) = false := by simp; omega
              have hs : wrap64 (un + n) = un + n := IntWalk.wrap64_in _ (by omega)
              have hs2 : wrap64 (a + n) = a + n := IntWalk.wrap64_in _ (by omega)
              go_wp2
              go_loopw [14] (fun v wx => ∃ j : Nat, j ≤ i ∧ v = .int .i64 j ∧ Below w4.heap.size w4 wx) (fun v _ => i - (intOf v).toNat)
              case atStart => exact ⟨0, Nat.zero_le _, rfl, HB3.out⟩
              case round =>
                obtain ⟨j, hj, rfl, hbel⟩ := hrel
                have HB5 : Hid (Below w4.heap.size w4 wr) := hbel
                clear hbel p0 x0 y3 gk HB3
                have p0 := cell_any (P4.out.1 0 _ rfl) HB5.out
                have x0 := cell_any (X4.out.1 0 _ rfl) HB5.out
                by_cases hji : j < i
                · have hji' : (j : Int) < i := by omega
                  have hjF : (j : Int) < F := by omega
                  obtain ⟨q', off', m, hqq, -, hm, a1', c1', a2', m2', c2', s3, l3, -, -⟩ := FX.out j (by omega)
                  simp only [Option.some.injEq, Addr.mk.injEq, and_true] at hqq
                  obtain ⟨rfl, rfl⟩ := hqq
                  obtain ⟨g', b, hgg, hgb, hgc⟩ := CX4.out j (by omega)
                  simp only [Option.some.injEq, Addr.mk.injEq, and_true] at hgg
                  subst hgg
                  obtain ⟨q'', off'', n', hqq, -, hn', a1'', c1'', a2'', m2'', c2'', s4, l4, -, -⟩ := FX.out i hlt3
                  simp only [Option.some.injEq, Addr.mk.injEq, and_true] at hqq
                  obtain ⟨rfl, rfl⟩ := hqq
                  rw [HGA.out.2] at hn'
                  obtain rfl := Option.some.inj hn'
                  have hm7 : (m : Int) ≤ 70000 := by have := FOK.out.1 m (List.mem_of_getElem? hm); omega
                  have hbv := CFA.out.2.1 j b m hgb hm
                  have hap : 0 ≤ b → a + n ≤ b ∨ b + m ≤ a := fun hb => CFA.out.2.2 i j a b n m (by omega) HGA.out.1 hgb HGA.out.2 hm hav hb
                  have gb := cell_any hgc HB5.out
                  have y3 := cell_any s3 (bnext B4.out HB5.out)
                  have y4 := cell_any s4 (bnext B4.out HB5.out)
                  clear hgb hgc hm s3 s4 l3 l4 hn'
                  rcases hbv with rfl | ⟨hbv, hbv2⟩
                  · clear hap
                    go_wp2
                    go_roundw
                    case rel => exact ⟨j + 1, by omega, by go_num, HB5.out⟩
                    case measure => simp [intOf]; omega
                  · have b2 : decide (0 ≤ b) = true := by simpa using hbv
                    have hs3 : wrap64 (b + m) = b + m := IntWalk.wrap64_in _ (by omega)
                    rcases hap hbv with hap | hap
                    · have m2 : decide (b < a + n) = false := by simp; omega
                      by_cases hab : a < b + m
                      · have m1 : decide (a < b + m) = true := by simpa using hab
                        clear hap hab
                        go_wp2
                        go_roundw
                        case rel => exact ⟨j + 1, by omega, by go_num, HB5.out⟩
                        case measure => simp [intOf]; omega
                      · have m1 : decide (a < b + m) = false := by simpa using hab
                        clear hap hab
                        go_wp2
                        go_roundw
                        case rel => exact ⟨j + 1, by omega, by go_num, HB5.out⟩
                        case measure => simp [intOf]; omega
                    · have m1 : decide (a < b + m) = false := by simp; omega
                      go_wp2
                      go_roundw
                      case rel => exact ⟨j + 1, by omega, by go_num, HB5.out⟩
                      case measure => simp [intOf]; omega
                · obtain rfl : j = i := by omega
                  go_wp2
                  go_roundw
                  case rel => exact ⟨j + 1, by omega, by go_num, by rw [US.out], HB5.out⟩
                  case measure => simp [intOf]; omega
          · obtain rfl : i = F := by omega
            have e1 : Hid (usedN p.codes G i = xw) := by have := CFA.out.1; rw [EF.out.1] at this; exact this
            generalize usedN p.codes G i = un at e1 u0 u1 ⊢
            obtain rfl := e1.out
            have x2 := cell_any (X4.out.1 2 _ rfl) HB3.out
            have x4 := cell_any (X4.out.1 4 _ rfl) HB3.out
            have t1 : (un == un) = true := by simp
            have t2 : (wt % 16 == 0) = true := by simpa using hwm.1
            go_wp2
            go_ret
            exact ⟨rfl, bnext B4.out HB3.out⟩
end Go.Proofs.Ythhnmlhajfmhfaa
