/- PatchEquation, walked. -/
import Derived.Test.YtombfnnpdamlgaaDoorPatPlan
import Derived.Test.YtombfnnpdamlgaaDoorPatEqM
import Derived.Test.YtombfnnpdamlgaaDoorCodeAwake
namespace Go.Proofs.YtombfnnpdamlgaaDoor
open Go.ChangeShapes Go.WideShapes Go.ChangeAt Go.RowKit
set_option linter.unusedVariables false
set_option linter.unusedSimpArgs false
theorem words_cell {A : Nat → Prop} {w : World} {a : Option Addr} {n c : Nat} {l : List Int} (h : IsWords A w (.slice a n c) l) {i : Nat} {y : Int} (hi : l[i]? = some y) : ∃ b off, a = some ⟨b, off, none⟩ ∧ w.cell? ⟨b, off + i, none⟩ = some (.int .u32 y) := by
  obtain ⟨a', c', e, -, -, hl⟩ := h.1
  injection e with e1 e2 e3
  subst e1
  rcases hl with rfl | ⟨b, off, rfl, hc⟩
  · simp at hi
  · exact ⟨b, off, rfl, by have h : w.cell? ⟨b, off + i * 1, none⟩ = _ := hc i y hi; rwa [Nat.mul_one] at h⟩
set_option maxRecDepth 100000 in
set_option maxHeartbeats 4000000 in
theorem equation_walk (w : World) (v : Value) (p : ProgM) (h : IsProg Any8 w v p) (vo : Value) (o : List Int) (hn : IsNums w vo o) (hT : Tab w) :
    Calls Tryd.prog 5 #[v, vo] w fun e w' => e = .returned (.bool true) ∧ Below w.heap.size w w' := by
  obtain ⟨z, hz, ho⟩ := h.place
  have AW : Hid (∀ W, Below w.heap.size w W → Calls Tryd.prog 8 #[] W fun e w' => e = .returned (.bool true) ∧ Below W.heap.size W w') := fun W hW => awake13 W (hT.later hW)
  have FI : Hid (∀ W, Below w.heap.size w W → Calls Tryd.prog 9 #[v, vo] W fun e w' => OnlyIf e (MayB z ∧ RightP p ∧ o.length ≤ 400) ∧ Below W.heap.size W w') := fun W hW => fine_any (h.later hW) (hz.later hW) ho (hn.later hW)
  have PL : Hid (MayB z → o.length ≤ 400 → ∀ W, Below w.heap.size w W → Calls Tryd.prog 10 #[v, vo] W fun e w' => PlanPost W.heap.size (planZ z o) e w' ∧ Below W.heap.size W w') := fun hm hl W hW => plan_any (hz.later hW) (hn.later hW) hm.may hl
  have CC : Hid (∀ W vx x base, Below w.heap.size w W → MayB z → RightP p → planZ z o = (0, x) → IsPlan base W vx x → PlanOk p.funcs.length p.datas.length x ∧ ∀ k, k < o.length → ∃ (f : Nat) (F : PFuncM) (c : Int), o[k]? = some (f : Int) ∧ p.funcs[f]? = some F ∧ x.code[f]? = some c ∧ 0 ≤ c ∧ F.code.length ≤ 70000 ∧ Wrd F.code ∧ FnOk p.funcs.length p.datas.length F ∧
      ∀ W', Below W.heap.size W W' → Calls Tryd.prog 11 #[v, vx, .int .i64 f] W' fun e w' => RowPost .u32 W'.heap.size (codeZ x c F) e w' ∧ Below W'.heap.size W' w') := fun W vx x base hW hm hr hp hx => by
    obtain ⟨hok, hord⟩ := plan_good hm ho hp
    refine ⟨hok, fun k hk => ?_⟩
    obtain ⟨f, F, c, h1, h2, h3, h4⟩ := hord k hk
    have hl := hm.code ho F (List.mem_of_getElem? h2)
    exact ⟨f, F, c, h1, h2, h3, h4, hl, h.wrd.1 F (List.mem_of_getElem? h2), hr.1 F (List.mem_of_getElem? h2), fun W' hW' => pcode_any (h.later (bnext hW hW')) (hx.later hW') (hT.later (bnext hW hW')) hr hok f h2 h3 h4 hl⟩
  have FX : Hid (∀ fa nf fc vd ve, v = .agg #[.slice fa nf fc, vd, ve] → ∀ (f : Nat) F, p.funcs[f]? = some F → ∃ b off ca m cc ra rn rc, fa = some ⟨b, off, none⟩ ∧ w.cell? ⟨b, off + f * 5 + 3, none⟩ = some (.slice ca m cc) ∧ w.cell? ⟨b, off + f * 5 + 4, none⟩ = some (.slice ra rn rc) ∧ IsWords Any8 w (.slice ca m cc) F.code ∧ F.code.length = m ∧ IsPRels Any8 w (.slice ra rn rc) F.rels ∧ F.rels.length = rn ∧ rn ≤ maxLen ∧ f < nf ∧ nf ≤ maxLen) := fun fa nf fc vd ve hv f F hF => by
    obtain ⟨vf', vd', hv', hpf, -⟩ := h
    rw [hv] at hv'
    injection hv' with hv'
    simp at hv'
    obtain ⟨e1, -, -⟩ := hv'
    subst e1
    obtain ⟨fa', fc', e, fm, -, fx⟩ := LstA.open hpf
    injection e with e1 e2 e3
    subst e1
    have hfl : f < nf := by rw [e2]; exact get_lt hF
    have hnm : nf ≤ maxLen := by rw [e2]; exact fm
    obtain ⟨b, off, F', e, -, hF', vc, vr, -, -, -, f3, f4, hw, hr⟩ := fx f (get_lt hF)
    rw [hF] at hF'
    injection hF' with hF'
    subst hF'
    obtain ⟨a, c, rfl, -⟩ := words_form hw
    obtain ⟨a', c', rfl, l'⟩ := prels_form hr
    exact ⟨b, off, a, _, c, a', _, c', e, f3, f4, hw, rfl, hr, rfl, l', hfl, hnm⟩
  obtain ⟨fa, fc, da, dc, rfl, -, -⟩ := hz.open
  obtain ⟨oa, oc, rfl, om, -, ox⟩ := LstA.open hn
  have om' := may_len om
  have HN : Hid (IsNums w (.slice oa o.length oc) o) := hn
  obtain ⟨n, en⟩ : ∃ n, o.length = n := ⟨_, rfl⟩
  obtain ⟨nf, enf⟩ : ∃ n, z.codes.length = n := ⟨_, rfl⟩
  obtain ⟨nd, endd⟩ : ∃ n, z.datas.length = n := ⟨_, rfl⟩
  obtain ⟨E, eE⟩ : ∃ n, z.entry = n := ⟨_, rfl⟩
  rw [en] at om' ox
  have FX1 := FX.out fa z.codes.length fc (.slice da z.datas.length dc) (.int .i64 z.entry) rfl
  replace FX : Hid _ := FX1
  clear FX1
  rw [en] at FI PL CC HN ⊢
  rw [enf, endd, eE] at FI PL CC ⊢
  rw [enf] at FX
  have OX : Hid (∀ k, k < n → ∃ b off x, oa = some ⟨b, off, none⟩ ∧ Any8 b ∧ o[k]? = some x ∧ NumAt .i64 w b (off + k * 1) x) := ox
  clear h hz hn hT om ox en enf endd eE
  have X0 := XAt.new w #[.slice fa nf fc, .slice da nd dc, .int .i64 E] 25
  have UP := keep_alloc8 (Below.refl w.heap.size w) (.cells #[.slice fa nf fc, .slice da nd dc, .int .i64 E] 25)
  go_enter Tryd.func5, Tryd.ntmps5
  go_upto_region 1 with fail
  generalize w.alloc (.cells #[.slice fa nf fc, .slice da nd dc, .int .i64 E] 25) = w0 at X0 UP ⊢
  have U0 : Hid (Below w.heap.size w w0) := UP
  have X0' : Hid (XAt w0 w.heap.size [.slice fa nf fc, .slice da nd dc, .int .i64 E]) := X0
  have XC : Hid (∀ W, Below w0.heap.size w0 W → W.cell? ⟨w.heap.size, 0, none⟩ = some (.slice fa nf fc) ∧ W.cell? ⟨w.heap.size, 1, none⟩ = some (.slice da nd dc) ∧ W.cell? ⟨w.heap.size, 2, none⟩ = some (.int .i64 E)) := fun W hW => ⟨cell_any (X0'.out.1 0 _ rfl) hW, cell_any (X0'.out.1 1 _ rfl) hW, cell_any (X0'.out.1 2 _ rfl) hW⟩
  clear X0 UP
  go_wp2_with (first
    | (go_at_call 9; refine (FI.out _ (bnext U0.out hB1)).mono ?_; rintro e w2 ⟨⟨b1, rfl, hb1⟩, hB2⟩; have HM1 : Hid (b1 = true → MayB z ∧ RightP p ∧ n ≤ 400) := hb1; clear hb1; obtain ⟨p0', p1', p2'⟩ := XC.out _ (bnext hB1 hB2); cases b1)
    | (go_at_call 8; have q := U0; refine (AW.out _ (by first | exact U0.out | exact bnext (bnext U0.out hB1) hB2)).mono ?_; first | (rintro e w3 ⟨rfl, hB3⟩; have qq := hB2) | (rintro e w1 ⟨rfl, hB1⟩; obtain ⟨p0, p1, p2⟩ := XC.out _ hB1))
    | (go_at_call 10; refine (PL.out (HM1.out (by first | rfl | trivial)).1 (HM1.out (by first | rfl | trivial)).2.2 _ (bnext (bnext U0.out hB1) hB2)).mono ?_; rintro e w4 ⟨hpl, hB4⟩; obtain ⟨xa, xn, xc, ya, yn, yc, xw, xb, xr, er, rfl, her, hip⟩ := hpl.open; have HP : Hid (er = (planZ z o).1 ∧ IsPlan _ w4 (.agg #[.slice xa xn xc, .slice ya yn yc, .int .i64 xw, .int .i64 xb, .int .i64 xr]) (planZ z o).2) := ⟨her, hip⟩; clear her hip hpl; by_cases her0 : er = 0))
  · go_ret
    exact ⟨rfl, bnext (bnext (bnext U0.out hB1) hB2) hB3⟩
  · subst her0
    obtain ⟨x, ex⟩ : ∃ x, planZ z o = (0, x) := ⟨(planZ z o).2, Prod.ext HP.out.1.symm rfl⟩
    have HX4 : Hid (IsPlan w2.heap.size w4 (.agg #[.slice xa xn xc, .slice ya yn yc, .int .i64 xw, .int .i64 xb, .int .i64 xr]) x) := by have h := HP.out.2; rw [ex] at h; exact h
    have EX : Hid (planZ z o = (0, x) ∧ MayB z ∧ RightP p) := ⟨ex, (HM1.out (by first | rfl | trivial)).1, (HM1.out (by first | rfl | trivial)).2.1⟩
    clear ex HP HM1
    have X5 := XAt.new w4 #[.slice xa xn xc, .slice ya yn yc, .int .i64 xw, .int .i64 xb, .int .i64 xr] 30
    have B5 := keep_alloc8 (Below.refl w4.heap.size w4) (.cells #[.slice xa xn xc, .slice ya yn yc, .int .i64 xw, .int .i64 xb, .int .i64 xr] 30)
    go_upto_region 7 with fail
    generalize w4.alloc (.cells #[.slice xa xn xc, .slice ya yn yc, .int .i64 xw, .int .i64 xb, .int .i64 xr] 30) = w5 at X5 B5 ⊢
    have H05 : Hid (Below w0.heap.size w0 w5) := bnext hB1 (bnext hB2 (bnext hB4 B5))
    have HX5 : Hid (IsPlan w2.heap.size w5 (.agg #[.slice xa xn xc, .slice ya yn yc, .int .i64 xw, .int .i64 xb, .int .i64 xr]) x) := HX4.out.later B5
    have XX : Hid (XAt w5 w4.heap.size [.slice xa xn xc, .slice ya yn yc, .int .i64 xw, .int .i64 xb, .int .i64 xr]) := X5
    obtain ⟨Z, eZ⟩ : ∃ Z, w4.heap.size = Z := ⟨_, rfl⟩
    rw [eZ] at XX ⊢
    clear X5 B5 p0 p1 p2 p0' p1' p2' HX4 eZ
    go_loopw [7] (fun i wr => ∃ k : Nat, k ≤ n ∧ i = .int .i64 k ∧ Below w5.heap.size w5 wr) (fun i _ => n - (intOf i).toNat)
    case atStart => exact ⟨0, Nat.zero_le _, rfl, Below.refl _ _⟩
    case round =>
      obtain ⟨k, hk, rfl, hb⟩ := hrel
      have HB : Hid (Below w5.heap.size w5 wr) := hb
      clear hb
      by_cases hlt : k < n
      · have hlt' : (k : Int) < n := by omega
        have HW : Hid (Below w.heap.size w wr) := bnext U0.out (bnext H05.out HB.out)
        obtain ⟨hok, hcc⟩ := CC.out wr _ x _ HW.out EX.out.2.1 EX.out.2.2 EX.out.1 (HX5.out.later HB.out)
        obtain ⟨f, F, c, h1, h2, h3, h4, h5, h6, h7, hc1⟩ := hcc k hlt
        obtain ⟨b, off, ca, m, cc, ra, rn, rc, rfl, g3, g4, gw, gm, gr, grn, grm, hfn, hnm⟩ := FX.out f F h2
        have hfn' : (f : Int) < nf := by omega
        have hnm' := may_len hnm
        obtain ⟨ob, oo, f', rfl, -, hf', oc0⟩ := OX.out k hlt
        rw [h1] at hf'
        injection hf' with hf'
        subst hf'
        have OC : Hid (w.cell? ⟨ob, oo + k, none⟩ = some (.int .i64 f)) := by have h : w.cell? ⟨ob, oo + k * 1, none⟩ = _ := oc0; rw [Nat.mul_one] at h; exact h
        have HC1 : Hid (∀ W', Below wr.heap.size wr W' → Calls Tryd.prog 11 #[.agg #[.slice (some ⟨b, off, none⟩) nf fc, .slice da nd dc, .int .i64 E], .agg #[.slice xa xn xc, .slice ya yn yc, .int .i64 xw, .int .i64 xb, .int .i64 xr], .int .i64 f] W' fun e w' => RowPost .u32 W'.heap.size (codeZ x c F) e w' ∧ Below W'.heap.size W' w') := hc1
        have HFF : Hid (p.funcs[f]? = some F ∧ x.code[f]? = some c ∧ 0 ≤ c ∧ FnOk p.funcs.length p.datas.length F ∧ Wrd F.code ∧ PlanOk p.funcs.length p.datas.length x) := ⟨h2, h3, h4, h7, h6, hok⟩
        have HFC : Hid (w.cell? ⟨b, off + f * 5 + 3, none⟩ = some (.slice ca m cc) ∧ w.cell? ⟨b, off + f * 5 + 4, none⟩ = some (.slice ra rn rc) ∧ IsWords Any8 w (.slice ca m cc) F.code ∧ F.code.length = m ∧ IsPRels Any8 w (.slice ra rn rc) F.rels ∧ F.rels.length = rn ∧ rn ≤ maxLen ∧ m ≤ 70000) := ⟨g3, g4, gw, gm, gr, grn, grm, by omega⟩
        clear h1 h2 h3 h4 h5 h6 h7 hc1 hok hcc g3 g4 gw gm gr grn grm oc0
        have KS : Hid (∀ W, Below wr.heap.size wr W → W.cell? ⟨w.heap.size, 0, none⟩ = some (.slice (some ⟨b, off, none⟩) nf fc) ∧ W.cell? ⟨w.heap.size, 1, none⟩ = some (.slice da nd dc) ∧ W.cell? ⟨w.heap.size, 2, none⟩ = some (.int .i64 E) ∧
            W.cell? ⟨Z, 0, none⟩ = some (.slice xa xn xc) ∧ W.cell? ⟨Z, 1, none⟩ = some (.slice ya yn yc) ∧ W.cell? ⟨Z, 2, none⟩ = some (.int .i64 xw) ∧ W.cell? ⟨Z, 3, none⟩ = some (.int .i64 xb) ∧ W.cell? ⟨Z, 4, none⟩ = some (.int .i64 xr) ∧ W.cell? ⟨ob, oo + k, none⟩ = some (.int .i64 f)) := fun W hW => by
          obtain ⟨c0, c1, c2⟩ := XC.out W (bnext H05.out (bnext HB.out hW))
          have h5 := bnext HB.out hW
          exact ⟨c0, c1, c2, cell_any (XX.out.1 0 _ rfl) h5, cell_any (XX.out.1 1 _ rfl) h5, cell_any (XX.out.1 2 _ rfl) h5, cell_any (XX.out.1 3 _ rfl) h5, cell_any (XX.out.1 4 _ rfl) h5, cell_any OC.out (bnext HW.out hW)⟩
        obtain ⟨k0, k1, k2, k3, k4, k5, k6, k7, k8⟩ := KS.out wr (Below.refl _ _)
        go_upto_region 11 with (go_at_call 11; refine (HC1.out _ (Below.refl _ _)).mono ?_; rintro e w6 ⟨⟨hz, rfl⟩ | ⟨L, vL, hz, rfl, hr6⟩, hb6⟩)
        · have H8 : Hid (Below w5.heap.size w5 w6) := bnext HB.out hb6
          clear k0 k1 k2 k3 k4 k5 k6 k7 k8 hb6
          go_wp2
          go_roundw
          case rel => exact ⟨k + 1, by omega, by go_num, H8.out⟩
          case measure => simp [intOf]; omega
        · have HZ : Hid (codeZ x c F = some L) := hz
          have HLW : Hid (IsWords Any8 w6 vL L ∧ L.length = m) := ⟨RowU.words hr6 ((relsZ_keeps hz).2 HFF.out.2.2.2.2.1), by rw [codeZ_len hz]; exact HFC.out.2.2.2.1⟩
          have B6 : Hid (Below wr.heap.size wr w6) := hb6
          obtain ⟨aL, cL, eL, lm⟩ := words_form HLW.out.1
          subst eL
          have HLW' : Hid (IsWords Any8 w6 (.slice aL m cL) L) := by have h := HLW.out.1; rw [HLW.out.2] at h; exact h
          rw [HLW.out.2]
          rw [HLW.out.2] at lm
          have lm' := may_len lm
          have rn' := may_len HFC.out.2.2.2.2.2.2.1
          clear k0 k1 k2 k3 k4 k5 k6 k7 k8 hb6 hz hr6 lm
          obtain ⟨k0, k1, k2, k3, k4, k5, k6, k7, k8⟩ := KS.out w6 B6.out
          have g4 := cell_any HFC.out.2.1 (bnext HW.out B6.out)
          go_wp2
          clear k0 k1 k2 k3 k4 k5 k6 k7 k8 g4
          go_loopw [11, 13] (fun a i wq => ∃ (at_ i' : Nat), i' ≤ m ∧ i = .int .i64 i' ∧ at_ ≤ rn ∧ a = .int .i64 at_ ∧ (∀ j r, j < at_ → F.rels[j]? = some r → r.at_ < i') ∧ (∀ r, F.rels[at_]? = some r → (i' : Int) ≤ r.at_) ∧ Below w6.heap.size w6 wq) (fun _ i _ => m - (intOf i).toNat)
          case atStart => exact ⟨0, 0, Nat.zero_le _, rfl, Nat.zero_le _, rfl, (fun j r hj => by omega), (fun r hr => (HFF.out.2.2.2.1.1 r (List.mem_of_getElem? hr)).1), Below.refl _ _⟩
          case round =>
            obtain ⟨q, i, hi, rfl, hq, rfl, hlo, hup, hb⟩ := hrel
            have HLO : Hid (∀ j r, j < q → F.rels[j]? = some r → r.at_ < i) := hlo
            have HUP : Hid (∀ r, F.rels[q]? = some r → (i : Int) ≤ r.at_) := hup
            have HBQ : Hid (Below w6.heap.size w6 wr) := hb
            clear hlo hup hb
            have HWQ : Hid (Below w.heap.size w wr) := bnext HW.out (bnext B6.out HBQ.out)
            by_cases him : i < m
            · have him' : (i : Int) < m := by omega
              obtain ⟨uL, huL⟩ := get_some (l := L) (k := i) (by rw [HLW.out.2]; exact him)
              obtain ⟨yC, hyC⟩ := get_some (l := F.code) (k := i) (by rw [HFC.out.2.2.2.1]; exact him)
              obtain ⟨bl, ol, rfl, cl⟩ := words_cell HLW'.out huL
              obtain ⟨bc, oc', rfl, ccl⟩ := words_cell HFC.out.2.2.1 hyC
              have cl' := cell_any cl HBQ.out
              have cc' := cell_any ccl HWQ.out
              have g3 := cell_any HFC.out.1 HWQ.out
              obtain ⟨k0, k1, k2, k3, k4, k5, k6, k7, k8⟩ := KS.out wr (bnext B6.out HBQ.out)
              have HLI : Hid (L[i]? = some uL ∧ F.code[i]? = some yC) := ⟨huL, hyC⟩
              clear huL hyC cl ccl
              rcases (by omega : q = rn ∨ q < rn) with hqr | hqr
              · have hq1 : ¬ ((q : Int) < rn) := by omega
                have hq2 : decide ((rn : Int) ≤ (q : Int)) = true := decide_eq_true (by omega)
                have EQ : uL = yC := by
                  have h := codeZ_stay HFF.out.2.2.2.1 HZ.out (i := i) (fun r hr e => by
                    obtain ⟨j, hj⟩ := List.mem_iff_getElem?.1 hr
                    have h1 := HLO.out j r (by have := get_lt hj; have := HFC.out.2.2.2.2.2.1; omega) hj
                    omega)
                  rw [HLI.out.1, HLI.out.2] at h
                  injection h
                subst EQ
                have hne : (uL != uL) = false := by simp
                go_upto_region 18 with fail
                go_big_quiet (fail)
                go_wp2
                go_roundw
                case rel => exact ⟨q, i + 1, by omega, by go_num, by omega, rfl, (fun j r hj hr => by have := HLO.out j r hj hr; omega), (fun r hr => by have := get_lt hr; have := HFC.out.2.2.2.2.2.1; omega), below_drewN HBQ.out _⟩
                case measure => simp [intOf]; omega
              · have hq1 : (q : Int) < rn := by omega
                have hq2 : decide ((rn : Int) ≤ (q : Int)) = false := decide_eq_false (by omega)
                obtain ⟨ra', rc', era, -, -, rx⟩ := LstA.open HFC.out.2.2.2.2.1
                injection era with era1 era2 era3
                subst era1
                obtain ⟨qb, qo, r, rfl, -, hr, z0, z1, z2, z3⟩ := rx q (by rw [HFC.out.2.2.2.2.2.1]; exact hqr)
                have HRQ : Hid (F.rels[q]? = some r) := hr
                have y0 := cell_any z0 HWQ.out
                have y1 := cell_any z1 HWQ.out
                have y2 := cell_any z2 HWQ.out
                have y3 := cell_any z3 HWQ.out
                have hup := HUP.out r hr
                obtain ⟨at_, kd, tt, ad⟩ := r
                dsimp only at y0 y1 y2 y3 hup
                clear rx hr z0 z1 z2 z3 era2 era3
                by_cases hai : at_ = i
                · subst hai
                  have hlt9 : i < F.code.length := get_lt HLI.out.2
                  obtain ⟨y, imm, c1, c2, c3, c4, c5⟩ := codeZ_at HFF.out.2.2.2.1 HZ.out HRQ.out
                  dsimp only at c1 c3 c5
                  rw [Int.toNat_natCast] at c1 c5
                  rw [HLI.out.2] at c1
                  injection c1 with c1
                  subst c1
                  rw [HLI.out.1] at c5
                  injection c5 with c5
                  obtain ⟨b1, b2, b3, b4, b5, b6⟩ := put_back c4
                  rw [← c5] at b1 b2 b3 b4 b5 b6
                  have hwy := HFF.out.2.2.2.2.1 yC (List.mem_of_getElem? HLI.out.2)
                  have hwu : 0 ≤ uL ∧ uL < 4294967296 := by rw [c5]; exact putZ_range c4
                  have HG1 : Hid (∀ W, Calls Tryd.prog 17 #[.int .u32 uL] W fun e w' => e = .returned (.tuple #[.agg #[.int .i64 (gO yC), .int .i64 (gA yC), .int .i64 (gB yC), .int .i64 (gC yC), .int .i64 imm], .bool true]) ∧ Below W.heap.size W w') := fun W => by
                    have h := rget_all uL W hwu.1 hwu.2
                    unfold rgetV insV at h
                    rw [if_pos b1, b2, b3, b4, b5, b6] at h
                    exact h
                  have HG2 : Hid (∀ W, Calls Tryd.prog 17 #[.int .u32 yC] W fun e w' => e = .returned (.tuple #[.agg #[.int .i64 (gO yC), .int .i64 (gA yC), .int .i64 (gB yC), .int .i64 (gC yC), .int .i64 (gI yC)], .bool true]) ∧ Below W.heap.size W w') := fun W => by
                    have h := rget_all yC W hwy.1 hwy.2
                    unfold rgetV insV at h
                    rw [if_pos c2] at h
                    exact h
                  have HBC : Hid (becZ x ⟨i, kd, tt, ad⟩ (c + i) = some imm) := c3
                  have HRF : Hid (RelF p.funcs.length p.datas.length F.code ⟨i, kd, tt, ad⟩) := HFF.out.2.2.2.1.1 _ (List.mem_of_getElem? HRQ.out)
                  clear c2 c3 c4 c5 b1 b2 b3 b4 b5 b6 hwy hwu hup
                  obtain ⟨O, eO⟩ : ∃ O, gO yC = O := ⟨_, rfl⟩
                  obtain ⟨GA, eA⟩ : ∃ O, gA yC = O := ⟨_, rfl⟩
                  obtain ⟨GB, eBB⟩ : ∃ O, gB yC = O := ⟨_, rfl⟩
                  obtain ⟨GC, eC⟩ : ∃ O, gC yC = O := ⟨_, rfl⟩
                  obtain ⟨GI, eI⟩ : ∃ O, gI yC = O := ⟨_, rfl⟩
                  rw [eO, eA, eBB, eC] at HG1 HG2
                  rw [eI] at HG2
                  clear eO eA eBB eC eI
                  have BF : Hid (∀ W, Below wr.heap.size wr W → W.cell? ⟨w.heap.size, 0, none⟩ = some (.slice (some ⟨b, off, none⟩) nf fc) ∧ W.cell? ⟨b, off + f * 5 + 3, none⟩ = some (.slice (some ⟨bc, oc', none⟩) m cc) ∧ W.cell? ⟨bc, oc' + i, none⟩ = some (.int .u32 yC) ∧ W.cell? ⟨bl, ol + i, none⟩ = some (.int .u32 uL)) := fun W hW => ⟨cell_any k0 hW, cell_any g3 hW, cell_any cc' hW, cell_any cl' hW⟩
                  have BP : Hid (∀ W, Below wr.heap.size wr W → W.cell? ⟨Z, 0, none⟩ = some (.slice xa xn xc) ∧ W.cell? ⟨Z, 1, none⟩ = some (.slice ya yn yc)) := fun W hW => ⟨cell_any k3 hW, cell_any k4 hW⟩
                  have XR := XAt.new wr #[.int .i64 i, .int .i64 kd, .int .i64 tt, .int .i64 ad] 46
                  have HR7 := keep_alloc8 (Below.refl wr.heap.size wr) (.cells #[.int .i64 i, .int .i64 kd, .int .i64 tt, .int .i64 ad] 46)
                  have hai0 : ((i : Int) != (i : Int)) = false := by simp
                  go_upto_region 22 with fail
                  generalize wr.alloc (.cells #[.int .i64 i, .int .i64 kd, .int .i64 tt, .int .i64 ad] 46) = w7 at XR HR7 ⊢
                  have X7 : Hid (XAt w7 wr.heap.size [.int .i64 i, .int .i64 kd, .int .i64 tt, .int .i64 ad]) := XR
                  have H7 : Hid (Below wr.heap.size wr w7) := HR7
                  obtain ⟨C, eC⟩ : ∃ C, wr.heap.size = C := ⟨_, rfl⟩
                  have HCC : Hid (wr.heap.size = C) := eC
                  rw [eC] at X7 ⊢
                  clear XR HR7 eC k0 k1 k2 k3 k4 k5 k6 k7 k8 y0 y1 y2 y3 cl' cc' g3
                  obtain ⟨f0, f1, f2, f3⟩ := BF.out w7 H7.out
                  go_upto_region 23 with (go_at_call 17; refine (HG1.out _).mono ?_; rintro e w8 ⟨rfl, hb8⟩)
                  have XA9 := XAt.new w8 #[.int .i64 O, .int .i64 GA, .int .i64 GB, .int .i64 GC, .int .i64 imm] 49
                  have H9 : Hid (Below w7.heap.size w7 (w8.alloc (.cells #[.int .i64 O, .int .i64 GA, .int .i64 GB, .int .i64 GC, .int .i64 imm] 49)) ∧ w7.heap.size ≤ w8.heap.size) := ⟨keep_alloc8 hb8 _, hb8.size⟩
                  generalize w8.alloc (.cells #[.int .i64 O, .int .i64 GA, .int .i64 GB, .int .i64 GC, .int .i64 imm] 49) = w9 at XA9 H9 ⊢
                  have X9 : Hid (XAt w9 w8.heap.size [.int .i64 O, .int .i64 GA, .int .i64 GB, .int .i64 GC, .int .i64 imm]) := XA9
                  obtain ⟨Ia, eIa⟩ : ∃ C, w8.heap.size = C := ⟨_, rfl⟩
                  rw [eIa] at X9 H9 ⊢
                  have HIa : Hid (wr.heap.size ≤ Ia ∧ w7.heap.size ≤ Ia) := by
                    have h1 := hb8.size
                    have h2 := H7.out.size
                    exact ⟨by omega, by omega⟩
                  clear XA9 hb8 eIa f0 f1 f2 f3
                  obtain ⟨f0, f1, f2, f3⟩ := BF.out w9 (bnext H7.out H9.out.1)
                  go_upto_region 24 with (go_at_call 17; refine (HG2.out _).mono ?_; rintro e w10 ⟨rfl, hb10⟩)
                  have XB11 := XAt.new w10 #[.int .i64 O, .int .i64 GA, .int .i64 GB, .int .i64 GC, .int .i64 GI] 49
                  have H11 : Hid (Below w9.heap.size w9 (w10.alloc (.cells #[.int .i64 O, .int .i64 GA, .int .i64 GB, .int .i64 GC, .int .i64 GI] 49)) ∧ w9.heap.size ≤ w10.heap.size) := ⟨keep_alloc8 hb10 _, hb10.size⟩
                  generalize w10.alloc (.cells #[.int .i64 O, .int .i64 GA, .int .i64 GB, .int .i64 GC, .int .i64 GI] 49) = w11 at XB11 H11 ⊢
                  have X11 : Hid (XAt w11 w10.heap.size [.int .i64 O, .int .i64 GA, .int .i64 GB, .int .i64 GC, .int .i64 GI]) := XB11
                  have XA11 : Hid (XAt w11 Ia [.int .i64 O, .int .i64 GA, .int .i64 GB, .int .i64 GC, .int .i64 imm]) := X9.out.later (X9.out.lt (by simp)) H11.out.1
                  have NI : Hid (w10.heap.size ≠ Ia) := fun e => by have h1 := X9.out.lt (by simp); have h2 := H11.out.2; omega
                  obtain ⟨Ib, eIb⟩ : ∃ C, w10.heap.size = C := ⟨_, rfl⟩
                  rw [eIb] at X11 NI ⊢
                  clear XB11 hb10 eIb f0 f1 f2 f3
                  have ia4 := XA11.out.1 4 _ rfl
                  have iaf := XA11.out.2 4
                  have ib4 := X11.out.1 4 _ rfl
                  go_upto_region 26 with fail
                  have XA12 := XA11.out.set 4 (by simp) (.int .i64 GI)
                  have XB12 := X11.out.keep (Below.heap_setCell w11 ⟨Ia, 4, none⟩ (.int .i64 GI) Ib NI.out)
                  have X712 := X7.out.later (X7.out.lt (by simp)) ((bnext H9.out.1 H11.out.1).setCell (p := ⟨Ia, 4, none⟩) HIa.out.2 (.int .i64 GI))
                  have H12' := (bnext H7.out (bnext H9.out.1 H11.out.1)).setCell (p := ⟨Ia, 4, none⟩) HIa.out.1 (.int .i64 GI)
                  generalize w11.setCell ⟨Ia, 4, none⟩ (.int .i64 GI) = w12 at XA12 XB12 X712 H12' ⊢
                  have H12 : Hid (Below wr.heap.size wr w12) := H12'
                  have X12 : Hid (XAt w12 C [.int .i64 i, .int .i64 kd, .int .i64 tt, .int .i64 ad]) := X712
                  have XA : XAt w12 Ia [.int .i64 O, .int .i64 GA, .int .i64 GB, .int .i64 GC, .int .i64 GI] := XA12
                  have XB : XAt w12 Ib [.int .i64 O, .int .i64 GA, .int .i64 GB, .int .i64 GC, .int .i64 GI] := XB12
                  have a0 := XA.1 0 _ rfl
                  have a1 := XA.1 1 _ rfl
                  have a2 := XA.1 2 _ rfl
                  have a3 := XA.1 3 _ rfl
                  have a4 := XA.1 4 _ rfl
                  have b0 := XB.1 0 _ rfl
                  have b1 := XB.1 1 _ rfl
                  have b2 := XB.1 2 _ rfl
                  have b3 := XB.1 3 _ rfl
                  have b4 := XB.1 4 _ rfl
                  clear XA12 XB12 X712 H12' XA XB ia4 iaf ib4
                  have hne := fun w => run_neq_ins w O GA GB GC GI O GA GB GC GI
                  simp only [insV, beq_self_eq_true, Bool.and_self, Bool.not_true] at hne
                  go_upto_region 28 with fail
                  have hB5 := bnext HB.out (bnext B6.out (bnext HBQ.out H12.out))
                  obtain ⟨vc, vd, ev, hvc, hvd, -⟩ := HX5.out.later hB5
                  simp only [Value.agg.injEq, Array.mk.injEq, List.cons.injEq] at ev
                  obtain ⟨rfl, rfl, -⟩ := ev
                  obtain ⟨pa, pc, ep, pm, px⟩ := nums_open hvc.isNums rfl
                  obtain ⟨qa, qc, eq_, qm, qx⟩ := nums_open hvd.isNums rfl
                  injection ep with ep1 ep2 ep3
                  injection eq_ with eq1 eq2 eq3
                  subst ep1
                  subst eq1
                  have hrf := HRF.out
                  unfold RelF at hrf
                  obtain ⟨-, -, d1, d2, t0, -, hkk⟩ := hrf
                  dsimp only at d1 d2 t0 hkk
                  obtain ⟨T, rfl⟩ : ∃ T : Nat, tt = T := ⟨tt.toNat, by omega⟩
                  have x0 := X12.out.1 0 _ rfl
                  have x1 := X12.out.1 1 _ rfl
                  have x2 := X12.out.1 2 _ rfl
                  have x3 := X12.out.1 3 _ rfl
                  obtain ⟨p0, p1⟩ := BP.out w12 H12.out
                  rcases hkk with ⟨hk1, -, ht⟩ | ⟨hk23, ht⟩
                  · subst hk1
                    obtain ⟨e1, e2, e3⟩ := HFF.out.2.2.2.2.2.fun_ t0 ht
                    rw [Int.toNat_natCast] at e1
                    have hc0 := HFF.out.2.2.1
                    have hc1 := HFF.out.2.2.2.2.2.hc c (List.mem_of_getElem? HFF.out.2.1)
                    have hb := HBC.out
                    unfold becZ at hb
                    rw [if_pos rfl] at hb
                    dsimp only at hb
                    split at hb
                    · injection hb with hb
                      rcases px with h | ⟨xb', xo, rfl, hcell⟩
                      · have := get_lt HFF.out.2.1; omega
                      · have u1 := hcell _ _ HFF.out.2.1
                        have u2 := hcell _ _ e1
                        have v1 : (f : Int) < xn := by have := get_lt HFF.out.2.1; omega
                        have v2 : (T : Int) < xn := by have := get_lt e1; omega
                        generalize plc x.code (T : Int) = P at hb u2 e2 e3
                        have hE : ((c + (i : Int) + 1 + imm) != P) = false := by simp; omega
                        have g1 : imm ≤ 131072 := by omega
                        have g2 : -300000 ≤ imm := by have := HFC.out.2.2.2.2.2.2.2; omega
                        have g3 : c ≤ 65536 := by omega
                        have g4 : (i : Int) ≤ 70000 := by have := HFC.out.2.2.2.2.2.2.2; omega
                        clear hcell qx pm qm hvc hvd hB5 ep2 ep3 eq2 eq3 hb e1
                        go_big_quiet (fail)
                        go_upto_region 30 with fail
                        go_big_quiet (fail)
                        go_wp2
                        go_roundw
                        case rel => exact ⟨q + 1, i + 1, by omega, by go_num, by omega, by go_num, (fun j r hj hr => by rcases (by omega : j < q ∨ j = q) with h | h; (have := HLO.out j r h hr; omega); (subst h; rw [HRQ.out] at hr; injection hr with hr; subst hr; show ((i : Int)) < _; omega)), (fun r hr => by have h := asc_of HFF.out.2.2.2.1.2 (by omega) HRQ.out hr (by omega); dsimp only at h; omega), below_drewN (bnext HBQ.out H12.out) _⟩
                        case measure => simp [intOf]; omega
                    · cases hb
                  · obtain ⟨q0, q1, q2⟩ := HFF.out.2.2.2.2.2.val (r := ⟨i, kd, T, ad⟩) (by show (0 : Int) ≤ (T : Int); omega) ht
                    dsimp only at q0 q1 q2
                    rw [Int.toNat_natCast] at q0
                    have hb := HBC.out
                    unfold becZ valZ at hb
                    dsimp only at hb
                    rw [if_neg (by omega)] at hb
                    rcases qx with h | ⟨yb, yo, rfl, ycell⟩
                    · have := get_lt q0; omega
                    have u2 := ycell _ _ q0
                    have v2 : (T : Int) < yn := by have := get_lt q0; omega
                    generalize plc x.data (T : Int) = P at hb u2 q1 q2
                    split at hb
                    · rename_i hV
                      injection hb with hb
                      have hq : Int.tdiv (65536 + P + ad) 65536 = (65536 + P + ad) / 65536 := Int.tdiv_eq_ediv_of_nonneg hV
                      have hm : Int.tmod (65536 + P + ad) 65536 = (65536 + P + ad) % 65536 := Int.tmod_eq_emod_of_nonneg hV
                      clear ycell px pm qm hvc hvd hB5 ep2 ep3 eq2 eq3 q0
                      rcases hk23 with ⟨hk2, -⟩ | ⟨hk3, -⟩
                      · subst hk2
                        rw [if_pos rfl] at hb
                        have hE : (imm != (65536 + P + ad) / 65536) = false := by simp; omega
                        have hr1 : 0 ≤ (65536 + P + ad) / 65536 := by omega
                        have hr2 : (65536 + P + ad) / 65536 ≤ 65536 := by omega
                        clear hm hb
                        go_big_quiet (fail)
                        go_upto_region 30 with fail
                        go_big_quiet (fail)
                        go_wp2
                        go_roundw
                        case rel => exact ⟨q + 1, i + 1, by omega, by go_num, by omega, by go_num, (fun j r hj hr => by rcases (by omega : j < q ∨ j = q) with h | h; (have := HLO.out j r h hr; omega); (subst h; rw [HRQ.out] at hr; injection hr with hr; subst hr; show ((i : Int)) < _; omega)), (fun r hr => by have h := asc_of HFF.out.2.2.2.1.2 (by omega) HRQ.out hr (by omega); dsimp only at h; omega), below_drewN (bnext HBQ.out H12.out) _⟩
                        case measure => simp [intOf]; omega
                      · subst hk3
                        rw [if_neg (by omega)] at hb
                        have hE : (imm != (65536 + P + ad) % 65536) = false := by simp; omega
                        have hr1 : 0 ≤ (65536 + P + ad) % 65536 := by omega
                        have hr2 : (65536 + P + ad) % 65536 ≤ 65536 := by omega
                        clear hq hb
                        go_big_quiet (fail)
                        go_upto_region 30 with fail
                        go_big_quiet (fail)
                        go_wp2
                        go_roundw
                        case rel => exact ⟨q + 1, i + 1, by omega, by go_num, by omega, by go_num, (fun j r hj hr => by rcases (by omega : j < q ∨ j = q) with h | h; (have := HLO.out j r h hr; omega); (subst h; rw [HRQ.out] at hr; injection hr with hr; subst hr; show ((i : Int)) < _; omega)), (fun r hr => by have h := asc_of HFF.out.2.2.2.1.2 (by omega) HRQ.out hr (by omega); dsimp only at h; omega), below_drewN (bnext HBQ.out H12.out) _⟩
                        case measure => simp [intOf]; omega
                    · cases hb
                · have hai2 : (at_ != (i : Int)) = true := by simpa using hai
                  have EQ : uL = yC := by
                    have h := codeZ_stay HFF.out.2.2.2.1 HZ.out (i := i) (fun r hr e => by
                      obtain ⟨j, hj⟩ := List.mem_iff_getElem?.1 hr
                      rcases (by omega : j < q ∨ j = q ∨ q < j) with h1 | h1 | h1
                      · have := HLO.out j r h1 hj; omega
                      · subst h1; rw [HRQ.out] at hj; injection hj with hj; subst hj; exact hai e
                      · have h2 := asc_of HFF.out.2.2.2.1.2 (by omega) HRQ.out hj h1
                        dsimp only at h2
                        omega)
                    rw [HLI.out.1, HLI.out.2] at h
                    injection h
                  subst EQ
                  have hne : (uL != uL) = false := by simp
                  go_upto_region 18 with fail
                  go_big_quiet (fail)
                  go_wp2
                  go_roundw
                  case rel => exact ⟨q, i + 1, by omega, by go_num, by omega, rfl, (fun j r hj hr => by have := HLO.out j r hj hr; omega), (fun r hr => by rw [HRQ.out] at hr; injection hr with hr; subst hr; show ((i + 1 : Nat) : Int) ≤ at_; omega), below_drewN HBQ.out _⟩
                  case measure => simp [intOf]; omega
            · have him2 : i = m := by omega
              subst i
              have H8 : Hid (Below w5.heap.size w5 wr) := bnext HB.out (bnext B6.out HBQ.out)
              go_wp2
              go_roundw
              case rel => exact ⟨k + 1, by omega, by go_num, H8.out⟩
              case measure => simp [intOf]; omega
      · obtain rfl : k = n := by omega
        go_wp2
        go_ret
        exact ⟨rfl, bnext U0.out (bnext H05.out HB.out)⟩
  · go_wp2
    go_ret
    exact ⟨rfl, bnext U0.out (bnext hB1 (bnext hB2 (keep_alloc8 hB4 _)))⟩
end Go.Proofs.YtombfnnpdamlgaaDoor
