/- A program's plan, as the document's answer has it. -/
import Derived.Test.YthhnmlhajfmhfaaPlcRefK
import Derived.Deep.CutRange
namespace Go.Proofs.Ythhnmlhajfmhfaa
open Go.ChangeShapes Go.WideShapes Go.ChangeAt Go.RowKit
set_option linter.unusedVariables false
set_option linter.unusedSimpArgs false
set_option maxRecDepth 100000 in
set_option maxHeartbeats 8000000 in
theorem rplan_any {w : World} {v vo : Value} {p : ProgZ} {o : List Int} (h : IsP w v p) (ho : IsNums w vo o) (hm : MayZ p) (hl : o.length ≤ 400) :
    Calls Try.prog 11 #[v, vo] w fun e w' => PlanPost w.heap.size (planZ p o) e w' ∧ Below w.heap.size w w' := by
  obtain ⟨vf, vd, rfl, hf, hd⟩ := h
  obtain ⟨fa, fc, rfl, -, -, fx⟩ := LstA.open hf
  obtain ⟨da, dc, rfl, -, -, dx⟩ := LstA.open hd
  obtain ⟨oa, oc, rfl, -, -, ox⟩ := LstA.open ho
  unfold PlanPost
  obtain ⟨F, eF⟩ : ∃ F, p.codes.length = F := ⟨_, rfl⟩
  obtain ⟨D, eD⟩ : ∃ D, p.datas.length = D := ⟨_, rfl⟩
  obtain ⟨E, eE⟩ : ∃ E, p.entry = E := ⟨_, rfl⟩
  obtain ⟨O, eO⟩ : ∃ O, o.length = O := ⟨_, rfl⟩
  have HM : Hid (MayZ p) := hm
  have hF3 : (F : Int) ≤ 300 := by have := hm.1; omega
  have hD3 : (D : Int) ≤ 300 := by have := hm.2.1; omega
  rw [eF] at fx ⊢
  rw [eD] at dx ⊢
  rw [eO] at ox hl ⊢
  rw [eE]
  have EF : Hid (p.codes.length = F ∧ p.datas.length = D ∧ p.entry = E ∧ o.length = O) := ⟨eF, eD, eE, eO⟩
  have FX : Hid (∀ k, k < F → ∃ b off x, fa = some ⟨b, off, none⟩ ∧ Any8 b ∧ p.codes[k]? = some x ∧ PfAt w b (off + k * 5) x) := fx
  have DX : Hid (∀ k, k < D → ∃ b off x, da = some ⟨b, off, none⟩ ∧ Any8 b ∧ p.datas[k]? = some x ∧ PdAt w b (off + k * 5) x) := dx
  have OX : Hid (∀ k, k < O → ∃ b off x, oa = some ⟨b, off, none⟩ ∧ Any8 b ∧ o[k]? = some x ∧ NumAt .i64 w b (off + k * 1) x) := ox
  have hO' : (O : Int) ≤ 400 := by omega
  clear hf hd ho hm eF eD eE eO fx dx ox
  obtain ⟨i0, hi, hz0, hz1, hz2⟩ := info_parts intI
  have MKF : ∀ W, (Instr.makeSlice 26 (.int .i64 (F : Int)) (.int .i64 (F : Int))).run Try.prog W = .ok (.slice (some ⟨W.heap.size, 0, none⟩) F F) (W.alloc (.cells (madeCells #[.int .i64 0] F) 3)) := fun W => by
    have h := run_make (P := Try.prog) W 26 3 i0 _ Try.underlying26 hi hz0 .i64 .i64 F F (by omega) (Int.le_refl _) (by rw [hz2]; omega) (by omega)
    simp only [hz1, Nat.mul_one, Int.toNat_natCast] at h
    exact h
  have MKD : ∀ W, (Instr.makeSlice 26 (.int .i64 (D : Int)) (.int .i64 (D : Int))).run Try.prog W = .ok (.slice (some ⟨W.heap.size, 0, none⟩) D D) (W.alloc (.cells (madeCells #[.int .i64 0] D) 3)) := fun W => by
    have h := run_make (P := Try.prog) W 26 3 i0 _ Try.underlying26 hi hz0 .i64 .i64 D D (by omega) (Int.le_refl _) (by rw [hz2]; omega) (by omega)
    simp only [hz1, Nat.mul_one, Int.toNat_natCast] at h
    exact h
  obtain ⟨W0, eW0⟩ : ∃ W0, ((w.alloc (.cells #[.slice fa F fc, .slice da D dc, .int .i64 E] 25)).alloc (.cells #[.slice none 0 0, .slice none 0 0, .int .i64 0, .int .i64 0, .int .i64 0] 30)) = W0 := ⟨_, rfl⟩
  have UP : Hid (Below w.heap.size w W0) := by rw [← eW0]; exact keep_alloc8 (keep_alloc8 (Below.refl _ _) _) _
  have XA : Hid (XAt W0 w.heap.size [.slice fa F fc, .slice da D dc, .int .i64 E]) := by rw [← eW0]; exact (XAt.new w #[.slice fa F fc, .slice da D dc, .int .i64 E] 25).later (by simp) (keep_alloc8 (Below.refl _ _) _)
  have XB : Hid (XAt W0 (w.heap.size + 1) [.slice none 0 0, .slice none 0 0, .int .i64 0, .int .i64 0, .int .i64 0]) := by
    have h := XAt.new (w.alloc (.cells #[.slice fa F fc, .slice da D dc, .int .i64 E] 25)) #[.slice none 0 0, .slice none 0 0, .int .i64 0, .int .i64 0, .int .i64 0] 30
    rw [World.size_alloc] at h; rw [← eW0]; exact h
  have ha : Hid (w.heap.size < W0.heap.size) := XA.out.lt (by simp)
  have hb : Hid (w.heap.size + 1 < W0.heap.size) := XB.out.lt (by simp)
  have p0 := XA.out.1 0 _ rfl
  have p1 := XA.out.1 1 _ rfl
  go_enter Try.func11, Try.ntmps11
  go_upto_region 1 with fail
  try rw [eW0]
  clear eW0
  go_cut [6] from 12 to 20 (fun z wx => ∃ X g h, z = .pointer (some ⟨X, 0, none⟩) ∧ RefSt w wx w.heap.size (w.heap.size + 1) X g h [.slice fa F fc, .slice da D dc, .int .i64 E] F D (List.replicate F 0) (List.replicate D 0) 0 0 0)
  case first =>
    have DR : ∀ (W : World) (a : Addr) (v : Value), W.cell? a = some v → W.drew.cell? a = some v := fun W a v h => h
    have AL0 : ∀ (W : World) (o : Obj), W.cell? ⟨w.heap.size, 0, none⟩ = some (.slice fa F fc) → (W.alloc o).cell? ⟨w.heap.size, 0, none⟩ = some (.slice fa F fc) := fun W o h => cell_any h (keep_alloc8 (Below.refl _ _) _)
    have AL1 : ∀ (W : World) (o : Obj), W.cell? ⟨w.heap.size, 1, none⟩ = some (.slice da D dc) → (W.alloc o).cell? ⟨w.heap.size, 1, none⟩ = some (.slice da D dc) := fun W o h => cell_any h (keep_alloc8 (Below.refl _ _) _)
    go_region_held3 (fun W => W.cell? ⟨w.heap.size, 0, none⟩ = some (.slice fa F fc) ∧ W.cell? ⟨w.heap.size, 1, none⟩ = some (.slice da D dc)) (first | (refine ⟨?_, ?_⟩ <;> (repeat (with_reducible first | exact p0 | exact p1 | assumption | refine AL0 _ _ ?_ | refine AL1 _ _ ?_ | refine DR _ _ _ ?_)) <;> done) | go_keep) (fail)
    all_goals
      go_wp2_with fail
      go_meet
      first
        | exact ⟨_, _, _, rfl, ref_mk XA.out XB.out UP.out ⟨ha.out, hb.out, Nat.le_refl _, Nat.le_succ _⟩ (three_up _ _ _ _) (three1 _ _ _ _ _ _ _) (zer (three2 _ _ _ _ _ _ _)) (zer (three3 _ _ _ _ _ _ _)) (by simp; omega)⟩
        | exact ⟨_, _, _, rfl, ref_mk XA.out XB.out UP.out ⟨ha.out, hb.out, Nat.le_refl _, Nat.le_succ _⟩ (three_up _ _ _ _) (three1 _ _ _ _ _ _ _) (zer (three3 _ _ _ _ _ _ _)) (zer (three2 _ _ _ _ _ _ _)) (by simp; omega)⟩
        | exact ⟨_, _, _, rfl, ref_mk XA.out XB.out UP.out ⟨ha.out, hb.out, Nat.le_refl _, Nat.le_succ _⟩ (three_up _ _ _ _) (three2 _ _ _ _ _ _ _) (zer (three1 _ _ _ _ _ _ _)) (zer (three3 _ _ _ _ _ _ _)) (by simp; omega)⟩
        | exact ⟨_, _, _, rfl, ref_mk XA.out XB.out UP.out ⟨ha.out, hb.out, Nat.le_refl _, Nat.le_succ _⟩ (three_up _ _ _ _) (three2 _ _ _ _ _ _ _) (zer (three3 _ _ _ _ _ _ _)) (zer (three1 _ _ _ _ _ _ _)) (by simp; omega)⟩
        | exact ⟨_, _, _, rfl, ref_mk XA.out XB.out UP.out ⟨ha.out, hb.out, Nat.le_refl _, Nat.le_succ _⟩ (three_up _ _ _ _) (three3 _ _ _ _ _ _ _) (zer (three1 _ _ _ _ _ _ _)) (zer (three2 _ _ _ _ _ _ _)) (by simp; omega)⟩
        | exact ⟨_, _, _, rfl, ref_mk XA.out XB.out UP.out ⟨ha.out, hb.out, Nat.le_refl _, Nat.le_succ _⟩ (three_up _ _ _ _) (three3 _ _ _ _ _ _ _) (zer (three2 _ _ _ _ _ _ _)) (zer (three1 _ _ _ _ _ _ _)) (by simp; omega)⟩
  case rest =>
    obtain ⟨X, g, h, rfl, hS⟩ := hcut
    have HS0 : Hid (RefSt w wc w.heap.size (w.heap.size + 1) X g h [.slice fa F fc, .slice da D dc, .int .i64 E] F D (List.replicate F 0) (List.replicate D 0) 0 0 0) := hS
    clear hS UP XA XB ha hb p0 p1 MKF MKD
    go_wp2
    go_loopw [7] (fun i wr => ∃ k : Nat, ∃ G : List Int, k ≤ F ∧ i = .int .i64 k ∧ (∀ j, j < k → G[j]? = some (-1)) ∧ RefSt w wr w.heap.size (w.heap.size + 1) X g h [.slice fa F fc, .slice da D dc, .int .i64 E] F D G (List.replicate D 0) 0 0 0) (fun i _ => F - (intOf i).toNat)
    case atStart => exact ⟨0, _, Nat.zero_le _, rfl, (fun j hj => by omega), HS0.out⟩
    case round =>
      obtain ⟨k, G, hk, rfl, hG, hS⟩ := hrel
      have HS : Hid (RefSt w wr w.heap.size (w.heap.size + 1) X g h [.slice fa F fc, .slice da D dc, .int .i64 E] F D G (List.replicate D 0) 0 0 0) := hS
      have HG : Hid (∀ j, j < k → G[j]? = some (-1)) := hG
      clear hS hG HS0
      have p0 := HS.out.1.1.1 0 _ rfl
      have x0 := HS.out.1.2.2.1.1 0 _ rfl
      by_cases hlt : k < F
      · have hlt' : (k : Int) < F := by omega
        obtain ⟨x, hx⟩ := get_some (l := G) (k := k) (by rw [HS.out.2.2.2.1]; omega)
        have g0 := HS.out.1.2.2.2.1.1 k _ (nums_get hx)
        have g1 := HS.out.1.2.2.2.1.2 k
        clear hx
        go_upto_region 4 with fail
        have HS4 : Hid (RefSt w (wr.setCell ⟨g, k, none⟩ (.int .i64 (-1))) w.heap.size (w.heap.size + 1) X g h [.slice fa F fc, .slice da D dc, .int .i64 E] F D (G.set k (-1)) (List.replicate D 0) 0 0 0) := HS.out.setg hlt (-1)
        generalize (wr.setCell ⟨g, k, none⟩ (.int .i64 (-1))) = w4 at HS4 ⊢
        go_wp2
        go_roundw
        case rel => exact ⟨k + 1, G.set k (-1), by omega, by go_num, (fun j hj => by
          by_cases e : k = j
          · subst e; exact List.getElem?_set_self (by rw [HS.out.2.2.2.1]; omega)
          · rw [List.getElem?_set_ne e]; exact HG.out j (by omega)), HS4.out⟩
        case measure => simp [intOf]; omega
      · have ek : F = k := by omega
        subst ek
        have GR : Hid (G = List.replicate F (-1)) := by
          apply List.ext_getElem?
          intro j
          by_cases hj : j < F
          · rw [HG.out j hj, List.getElem?_replicate, if_pos hj]
          · rw [List.getElem?_eq_none (by rw [HS.out.2.2.2.1]; omega), List.getElem?_eq_none (by simp; omega)]
        go_wp2
        clear p0 x0
        go_loopw [8] (fun i wr => ∃ j : Nat, ∃ G wd, j ≤ O ∧ i = .int .i64 j ∧ codeN p.codes o j = some (G, wd) ∧ RefSt w wr w.heap.size (w.heap.size + 1) X g h [.slice fa F fc, .slice da D dc, .int .i64 E] F D G (List.replicate D 0) wd 0 0) (fun i _ => O - (intOf i).toNat)
        case atStart => exact ⟨0, List.replicate F (-1), 0, Nat.zero_le _, rfl, by simp only [codeN, EF.out.1], by have h := HS.out; rw [GR.out] at h; exact h⟩
        case round =>
          obtain ⟨k, G, wd, hk, rfl, hc, hS⟩ := hrel
          have HS : Hid (RefSt w wr w.heap.size (w.heap.size + 1) X g h [.slice fa F fc, .slice da D dc, .int .i64 E] F D G (List.replicate D 0) wd 0 0) := hS
          have HC : Hid (codeN p.codes o k = some (G, wd)) := hc
          obtain ⟨cl, cz, cm⟩ := code_some hc
          have hz2 := cm HM.out.2.2.1
          clear hS hc cl cm
          have p0 := HS.out.1.1.1 0 _ rfl
          have p2 := HS.out.1.1.1 2 _ rfl
          have x0 := HS.out.1.2.2.1.1 0 _ rfl
          have x2 := HS.out.1.2.2.1.1 2 _ rfl
          have xf2 := HS.out.1.2.2.1.2 2
          by_cases hlt : k < O
          · have hlt' : (k : Int) < O := by omega
            have hz3 : wd ≤ 28000000 := by omega
            obtain ⟨b, off, f, rfl, -, hx, y0⟩ := OX.out k hlt
            have HF : Hid (o[k]? = some f) := hx
            rw [Nat.mul_one] at y0
            have z0' := cell_any y0 HS.out.2.1.1
            clear y0 hx
            by_cases hr : 0 ≤ f ∧ f < F
            · obtain ⟨i, rfl⟩ : ∃ i : Nat, f = i := ⟨f.toNat, by omega⟩
              have hiF : i < F := by omega
              have hi' : (i : Int) < F := by omega
              obtain ⟨x, hx⟩ := get_some (l := G) (k := i) (by rw [HS.out.2.2.2.1]; omega)
              have HXX : Hid (G[i]? = some x) := hx
              have g0 := HS.out.1.2.2.2.1.1 i _ (nums_get hx)
              have g1 := HS.out.1.2.2.2.1.2 i
              clear hr hx
              by_cases hx1 : x = -1
              · subst hx1
                obtain ⟨fb, fo, n, rfl, -, hn, a1, c1, a2, m2, c2, s3, l3, -, -⟩ := FX.out i hiF
                have y3 := cell_any s3 HS.out.2.1.1
                have hn7 : (n : Int) ≤ 70000 := by have := HM.out.2.2.1 n (List.mem_of_getElem? hn); omega
                have HN : Hid (p.codes[i]? = some n) := hn
                have hs : wrap64 (wd + n) = wd + n := IntWalk.wrap64_in _ (by omega)
                clear l3 hn
                go_upto_region 13 with fail
                have HS4 : Hid (RefSt w (wr.setCell ⟨g, i, none⟩ (.int .i64 wd)) w.heap.size (w.heap.size + 1) X g h [.slice (some ⟨fb, fo, none⟩) F fc, .slice da D dc, .int .i64 E] F D (G.set i wd) (List.replicate D 0) wd 0 0) := HS.out.setg hiF wd
                generalize (wr.setCell ⟨g, i, none⟩ (.int .i64 wd)) = w4 at HS4 ⊢
                clear p0 p2 x0 x2 xf2 g0 g1 y3 z0'
                have p0 := HS4.out.1.1.1 0 _ rfl
                have x2 := HS4.out.1.2.2.1.1 2 _ rfl
                have xf2 := HS4.out.1.2.2.1.2 2
                have y3 := cell_any s3 HS4.out.2.1.1
                go_region
                all_goals
                  have HS5 : Hid (RefSt w (w4.setCell ⟨X, 2, none⟩ (.int .i64 (wd + n))).drew w.heap.size (w.heap.size + 1) X g h [.slice (some ⟨fb, fo, none⟩) F fc, .slice da D dc, .int .i64 E] F D (G.set i wd) (List.replicate D 0) (wd + n) 0 0) := (HS4.out.setX2 (wd + n)).drew
                  go_upto_region 8 with fail
                  generalize (w4.setCell ⟨X, 2, none⟩ (.int .i64 (wd + n))).drew = w5 at HS5 ⊢
                  go_wp2
                  go_roundw
                  case rel => exact ⟨k + 1, G.set i wd, wd + n, by omega, by go_num, by
                    have h := code_step HC.out HF.out (by omega) (by have := EF.out.1; omega) (by rw [Int.toNat_natCast]; exact HXX.out)
                    rw [Int.toNat_natCast, List.getD_eq_getElem?_getD, HN.out] at h; exact h, HS5.out⟩
                  case measure => simp [intOf]; omega
              · have hne : (x != -1) = true := by simpa using hx1
                have NN : Hid (codeN p.codes o (k + 1) = none) := code_none HC.out HF.out (fun q => hx1 (by have h := q.2.2; rw [Int.toNat_natCast, HXX.out] at h; exact Option.some.inj h))
                clear hx1
                have HB : Hid (planZ p o = (1, noPlan)) := plan_order (code_stay NN.out (by have := EF.out; omega))
                have r0 := HS.out.1.2.1.1 0 _ rfl
                have r1 := HS.out.1.2.1.1 1 _ rfl
                have r2 := HS.out.1.2.1.1 2 _ rfl
                have r3 := HS.out.1.2.1.1 3 _ rfl
                have r4 := HS.out.1.2.1.1 4 _ rfl
                have f0 := HS.out.1.2.1.2 0
                have f1 := HS.out.1.2.1.2 1
                have f2 := HS.out.1.2.1.2 2
                have f3 := HS.out.1.2.1.2 3
                have f4 := HS.out.1.2.1.2 4
                go_wp2
                rw [set5_eq]
                have RZ : Hid (XAt (set5 wr (w.heap.size + 1) (.slice none 0 0) (.slice none 0 0) (.int .i64 0) (.int .i64 0) (.int .i64 0)) (w.heap.size + 1) [.slice none 0 0, .slice none 0 0, .int .i64 0, .int .i64 0, .int .i64 0]) := xat_set5 HS.out.1.2.1
                have BZ : Hid (Below w.heap.size w (set5 wr (w.heap.size + 1) (.slice none 0 0) (.slice none 0 0) (.int .i64 0) (.int .i64 0) (.int .i64 0))) := below_set5 HS.out.2.1.1 (by omega)
                generalize (set5 wr (w.heap.size + 1) (.slice none 0 0) (.slice none 0 0) (.int .i64 0) (.int .i64 0) (.int .i64 0)) = w8 at RZ BZ ⊢
                have z0 := RZ.out.1 0 _ rfl
                have z1 := RZ.out.1 1 _ rfl
                have z2 := RZ.out.1 2 _ rfl
                have z3 := RZ.out.1 3 _ rfl
                have z4 := RZ.out.1 4 _ rfl
                refine bodyPost_ret (v := .tuple #[.agg #[.slice none 0 0, .slice none 0 0, .int .i64 0, .int .i64 0, .int .i64 0], .int .i64 1]) ?_ rfl ⟨⟨_, by rw [HB.out], by rw [HB.out]; exact IsPlan.none⟩, BZ.out⟩
                simp [results, Try.results11, go_sem, z0, z1, z2, z3, z4]
            · have NN : Hid (codeN p.codes o (k + 1) = none) := code_none HC.out HF.out (fun q => hr ⟨q.1, by have := q.2.1; have := EF.out.1; omega⟩)
              rcases (by omega : f < 0 ∨ (0 ≤ f ∧ (F : Int) ≤ f)) with h1 | ⟨h1, h2⟩
              · clear hr
                have HB : Hid (planZ p o = (1, noPlan)) := plan_order (code_stay NN.out (by have := EF.out; omega))
                have r0 := HS.out.1.2.1.1 0 _ rfl
                have r1 := HS.out.1.2.1.1 1 _ rfl
                have r2 := HS.out.1.2.1.1 2 _ rfl
                have r3 := HS.out.1.2.1.1 3 _ rfl
                have r4 := HS.out.1.2.1.1 4 _ rfl
                have f0 := HS.out.1.2.1.2 0
                have f1 := HS.out.1.2.1.2 1
                have f2 := HS.out.1.2.1.2 2
                have f3 := HS.out.1.2.1.2 3
                have f4 := HS.out.1.2.1.2 4
                go_wp2
                rw [set5_eq]
                have RZ : Hid (XAt (set5 wr (w.heap.size + 1) (.slice none 0 0) (.slice none 0 0) (.int .i64 0) (.int .i64 0) (.int .i64 0)) (w.heap.size + 1) [.slice none 0 0, .slice none 0 0, .int .i64 0, .int .i64 0, .int .i64 0]) := xat_set5 HS.out.1.2.1
                have BZ : Hid (Below w.heap.size w (set5 wr (w.heap.size + 1) (.slice none 0 0) (.slice none 0 0) (.int .i64 0) (.int .i64 0) (.int .i64 0))) := below_set5 HS.out.2.1.1 (by omega)
                generalize (set5 wr (w.heap.size + 1) (.slice none 0 0) (.slice none 0 0) (.int .i64 0) (.int .i64 0) (.int .i64 0)) = w8 at RZ BZ ⊢
                have z0 := RZ.out.1 0 _ rfl
                have z1 := RZ.out.1 1 _ rfl
                have z2 := RZ.out.1 2 _ rfl
                have z3 := RZ.out.1 3 _ rfl
                have z4 := RZ.out.1 4 _ rfl
                refine bodyPost_ret (v := .tuple #[.agg #[.slice none 0 0, .slice none 0 0, .int .i64 0, .int .i64 0, .int .i64 0], .int .i64 1]) ?_ rfl ⟨⟨_, by rw [HB.out], by rw [HB.out]; exact IsPlan.none⟩, BZ.out⟩
                simp [results, Try.results11, go_sem, z0, z1, z2, z3, z4]
              · clear hr
                have HB : Hid (planZ p o = (1, noPlan)) := plan_order (code_stay NN.out (by have := EF.out; omega))
                have r0 := HS.out.1.2.1.1 0 _ rfl
                have r1 := HS.out.1.2.1.1 1 _ rfl
                have r2 := HS.out.1.2.1.1 2 _ rfl
                have r3 := HS.out.1.2.1.1 3 _ rfl
                have r4 := HS.out.1.2.1.1 4 _ rfl
                have f0 := HS.out.1.2.1.2 0
                have f1 := HS.out.1.2.1.2 1
                have f2 := HS.out.1.2.1.2 2
                have f3 := HS.out.1.2.1.2 3
                have f4 := HS.out.1.2.1.2 4
                go_wp2
                rw [set5_eq]
                have RZ : Hid (XAt (set5 wr (w.heap.size + 1) (.slice none 0 0) (.slice none 0 0) (.int .i64 0) (.int .i64 0) (.int .i64 0)) (w.heap.size + 1) [.slice none 0 0, .slice none 0 0, .int .i64 0, .int .i64 0, .int .i64 0]) := xat_set5 HS.out.1.2.1
                have BZ : Hid (Below w.heap.size w (set5 wr (w.heap.size + 1) (.slice none 0 0) (.slice none 0 0) (.int .i64 0) (.int .i64 0) (.int .i64 0))) := below_set5 HS.out.2.1.1 (by omega)
                generalize (set5 wr (w.heap.size + 1) (.slice none 0 0) (.slice none 0 0) (.int .i64 0) (.int .i64 0) (.int .i64 0)) = w8 at RZ BZ ⊢
                have z0 := RZ.out.1 0 _ rfl
                have z1 := RZ.out.1 1 _ rfl
                have z2 := RZ.out.1 2 _ rfl
                have z3 := RZ.out.1 3 _ rfl
                have z4 := RZ.out.1 4 _ rfl
                refine bodyPost_ret (v := .tuple #[.agg #[.slice none 0 0, .slice none 0 0, .int .i64 0, .int .i64 0, .int .i64 0], .int .i64 1]) ?_ rfl ⟨⟨_, by rw [HB.out], by rw [HB.out]; exact IsPlan.none⟩, BZ.out⟩
                simp [results, Try.results11, go_sem, z0, z1, z2, z3, z4]
          · have ek : O = k := by omega
            subst ek
            have HCO : Hid (codeN p.codes o o.length = some (G, wd)) := by have := HC.out; rw [EF.out.2.2.2]; exact this
            clear p0 p2 x0 x2 xf2
            have p0 := HS.out.1.1.1 0 _ rfl
            have p2 := HS.out.1.1.1 2 _ rfl
            have x0 := HS.out.1.2.2.1.1 0 _ rfl
            by_cases hr : 0 ≤ E ∧ E < F
            rotate_left
            · have NE : Hid (¬ (0 ≤ p.entry ∧ p.entry < p.codes.length ∧ G[p.entry.toNat]? ≠ some (-1))) := fun q => hr ⟨by have := q.1; have := EF.out.2.2.1; omega, by have := q.2.1; have := EF.out; omega⟩
              rcases (by omega : E < 0 ∨ (0 ≤ E ∧ (F : Int) ≤ E)) with h1 | ⟨h1, h2⟩
              · clear hr
                have HB : Hid (planZ p o = (1, noPlan)) := plan_entry HCO.out NE.out
                have r0 := HS.out.1.2.1.1 0 _ rfl
                have r1 := HS.out.1.2.1.1 1 _ rfl
                have r2 := HS.out.1.2.1.1 2 _ rfl
                have r3 := HS.out.1.2.1.1 3 _ rfl
                have r4 := HS.out.1.2.1.1 4 _ rfl
                have f0 := HS.out.1.2.1.2 0
                have f1 := HS.out.1.2.1.2 1
                have f2 := HS.out.1.2.1.2 2
                have f3 := HS.out.1.2.1.2 3
                have f4 := HS.out.1.2.1.2 4
                go_wp2
                rw [set5_eq]
                have RZ : Hid (XAt (set5 wr (w.heap.size + 1) (.slice none 0 0) (.slice none 0 0) (.int .i64 0) (.int .i64 0) (.int .i64 0)) (w.heap.size + 1) [.slice none 0 0, .slice none 0 0, .int .i64 0, .int .i64 0, .int .i64 0]) := xat_set5 HS.out.1.2.1
                have BZ : Hid (Below w.heap.size w (set5 wr (w.heap.size + 1) (.slice none 0 0) (.slice none 0 0) (.int .i64 0) (.int .i64 0) (.int .i64 0))) := below_set5 HS.out.2.1.1 (by omega)
                generalize (set5 wr (w.heap.size + 1) (.slice none 0 0) (.slice none 0 0) (.int .i64 0) (.int .i64 0) (.int .i64 0)) = w8 at RZ BZ ⊢
                have z0 := RZ.out.1 0 _ rfl
                have z1 := RZ.out.1 1 _ rfl
                have z2 := RZ.out.1 2 _ rfl
                have z3 := RZ.out.1 3 _ rfl
                have z4 := RZ.out.1 4 _ rfl
                refine bodyPost_ret (v := .tuple #[.agg #[.slice none 0 0, .slice none 0 0, .int .i64 0, .int .i64 0, .int .i64 0], .int .i64 1]) ?_ rfl ⟨⟨_, by rw [HB.out], by rw [HB.out]; exact IsPlan.none⟩, BZ.out⟩
                simp [results, Try.results11, go_sem, z0, z1, z2, z3, z4]
              · clear hr
                have HB : Hid (planZ p o = (1, noPlan)) := plan_entry HCO.out NE.out
                have r0 := HS.out.1.2.1.1 0 _ rfl
                have r1 := HS.out.1.2.1.1 1 _ rfl
                have r2 := HS.out.1.2.1.1 2 _ rfl
                have r3 := HS.out.1.2.1.1 3 _ rfl
                have r4 := HS.out.1.2.1.1 4 _ rfl
                have f0 := HS.out.1.2.1.2 0
                have f1 := HS.out.1.2.1.2 1
                have f2 := HS.out.1.2.1.2 2
                have f3 := HS.out.1.2.1.2 3
                have f4 := HS.out.1.2.1.2 4
                go_wp2
                rw [set5_eq]
                have RZ : Hid (XAt (set5 wr (w.heap.size + 1) (.slice none 0 0) (.slice none 0 0) (.int .i64 0) (.int .i64 0) (.int .i64 0)) (w.heap.size + 1) [.slice none 0 0, .slice none 0 0, .int .i64 0, .int .i64 0, .int .i64 0]) := xat_set5 HS.out.1.2.1
                have BZ : Hid (Below w.heap.size w (set5 wr (w.heap.size + 1) (.slice none 0 0) (.slice none 0 0) (.int .i64 0) (.int .i64 0) (.int .i64 0))) := below_set5 HS.out.2.1.1 (by omega)
                generalize (set5 wr (w.heap.size + 1) (.slice none 0 0) (.slice none 0 0) (.int .i64 0) (.int .i64 0) (.int .i64 0)) = w8 at RZ BZ ⊢
                have z0 := RZ.out.1 0 _ rfl
                have z1 := RZ.out.1 1 _ rfl
                have z2 := RZ.out.1 2 _ rfl
                have z3 := RZ.out.1 3 _ rfl
                have z4 := RZ.out.1 4 _ rfl
                refine bodyPost_ret (v := .tuple #[.agg #[.slice none 0 0, .slice none 0 0, .int .i64 0, .int .i64 0, .int .i64 0], .int .i64 1]) ?_ rfl ⟨⟨_, by rw [HB.out], by rw [HB.out]; exact IsPlan.none⟩, BZ.out⟩
                simp [results, Try.results11, go_sem, z0, z1, z2, z3, z4]
            obtain ⟨i, rfl⟩ : ∃ i : Nat, E = i := ⟨E.toNat, by omega⟩
            have hiF : i < F := by omega
            have hi' : (i : Int) < F := by omega
            obtain ⟨x, hx⟩ := get_some (l := G) (k := i) (by rw [HS.out.2.2.2.1]; omega)
            have HXX : Hid (G[i]? = some x) := hx
            have g0 := HS.out.1.2.2.2.1.1 i _ (nums_get hx)
            clear hr hx
            by_cases hx1 : x = -1
            · subst hx1
              have NE : Hid (¬ (0 ≤ p.entry ∧ p.entry < p.codes.length ∧ G[p.entry.toNat]? ≠ some (-1))) := fun q => q.2.2 (by rw [EF.out.2.2.1, Int.toNat_natCast]; exact HXX.out)
              have HB : Hid (planZ p o = (1, noPlan)) := plan_entry HCO.out NE.out
              have r0 := HS.out.1.2.1.1 0 _ rfl
              have r1 := HS.out.1.2.1.1 1 _ rfl
              have r2 := HS.out.1.2.1.1 2 _ rfl
              have r3 := HS.out.1.2.1.1 3 _ rfl
              have r4 := HS.out.1.2.1.1 4 _ rfl
              have f0 := HS.out.1.2.1.2 0
              have f1 := HS.out.1.2.1.2 1
              have f2 := HS.out.1.2.1.2 2
              have f3 := HS.out.1.2.1.2 3
              have f4 := HS.out.1.2.1.2 4
              go_wp2
              rw [set5_eq]
              have RZ : Hid (XAt (set5 wr (w.heap.size + 1) (.slice none 0 0) (.slice none 0 0) (.int .i64 0) (.int .i64 0) (.int .i64 0)) (w.heap.size + 1) [.slice none 0 0, .slice none 0 0, .int .i64 0, .int .i64 0, .int .i64 0]) := xat_set5 HS.out.1.2.1
              have BZ : Hid (Below w.heap.size w (set5 wr (w.heap.size + 1) (.slice none 0 0) (.slice none 0 0) (.int .i64 0) (.int .i64 0) (.int .i64 0))) := below_set5 HS.out.2.1.1 (by omega)
              generalize (set5 wr (w.heap.size + 1) (.slice none 0 0) (.slice none 0 0) (.int .i64 0) (.int .i64 0) (.int .i64 0)) = w8 at RZ BZ ⊢
              have z0 := RZ.out.1 0 _ rfl
              have z1 := RZ.out.1 1 _ rfl
              have z2 := RZ.out.1 2 _ rfl
              have z3 := RZ.out.1 3 _ rfl
              have z4 := RZ.out.1 4 _ rfl
              refine bodyPost_ret (v := .tuple #[.agg #[.slice none 0 0, .slice none 0 0, .int .i64 0, .int .i64 0, .int .i64 0], .int .i64 1]) ?_ rfl ⟨⟨_, by rw [HB.out], by rw [HB.out]; exact IsPlan.none⟩, BZ.out⟩
              simp [results, Try.results11, go_sem, z0, z1, z2, z3, z4]
            have hne : (x == -1) = false := by simpa using hx1
            have YE : Hid (0 ≤ p.entry ∧ p.entry < p.codes.length ∧ G[p.entry.toNat]? ≠ some (-1)) := ⟨by have := EF.out.2.2.1; omega, by have := EF.out; omega, by rw [EF.out.2.2.1, Int.toNat_natCast, HXX.out]; intro q; exact hx1 (Option.some.inj q)⟩
            clear hx1
            go_upto_region 16 with fail
            go_wp2
            have zz1 : decide (F ≤ i) = false := decide_eq_false (by omega)
            have zz2 : decide ((i : Int) < 0) = false := decide_eq_false (by omega)
            simp only [zz1, zz2, Bool.or_false]
            clear zz1 zz2
            generalize (i : Int) = e0 at *
            go_loopw [10] (fun tv wr => ∃ t : Nat, ∃ DL b wt, t ≤ 2 ∧ tv = .int .i64 t ∧ TurnOk p.datas t DL b wt ∧ RefSt w wr w.heap.size (w.heap.size + 1) X g h [.slice fa F fc, .slice da D dc, .int .i64 e0] F D G DL wd b wt) (fun tv _ => 2 - (intOf tv).toNat)
            case atStart => exact ⟨0, _, _, _, by omega, rfl, .inl ⟨rfl, by rw [EF.out.2.1], rfl, rfl⟩, HS.out⟩
            case round =>
              obtain ⟨t, DL, b, wt, ht, rfl, htk, hS⟩ := hrel
              rcases htk with ⟨rfl, rfl, rfl, rfl⟩ | ⟨rfl, rfl, rfl, rfl⟩ | ⟨rfl, rfl, rfl, rfl⟩
              · have HS : Hid (RefSt w wr w.heap.size (w.heap.size + 1) X g h [.slice fa F fc, .slice da D dc, .int .i64 e0] F D G (List.replicate p.datas.length 0) wd 0 0) := hS
                clear hS ht p0 p2 x0 g0
                have p1 := HS.out.1.1.1 1 _ rfl
                go_wp2
                go_loopw [11] (fun v wr => ∃ i : Nat, i ≤ D ∧ v = .int .i64 i ∧ RefSt w wr w.heap.size (w.heap.size + 1) X g h [.slice fa F fc, .slice da D dc, .int .i64 e0] F D G (passN true p.datas (List.replicate p.datas.length 0) 0 i).1 wd (passN true p.datas (List.replicate p.datas.length 0) 0 i).2 0) (fun v _ => D - (intOf v).toNat)
                case atStart => exact ⟨0, Nat.zero_le _, rfl, HS.out⟩
                case round =>
                  obtain ⟨i, hi, rfl, hS⟩ := hrel
                  have HS5 : Hid (RefSt w wr w.heap.size (w.heap.size + 1) X g h [.slice fa F fc, .slice da D dc, .int .i64 e0] F D G (passN true p.datas (List.replicate p.datas.length 0) 0 i).1 wd (passN true p.datas (List.replicate p.datas.length 0) 0 i).2 0) := hS
                  clear hS HS
                  have p1 := HS5.out.1.1.1 1 _ rfl
                  have x1 := HS5.out.1.2.2.1.1 1 _ rfl
                  by_cases hid : i < D
                  · have hid' : (i : Int) < D := by omega
                    obtain ⟨q, off, d, rfl, -, hd, y0, y1, y2, -, -, -, -⟩ := DX.out i hid
                    have HD : Hid (p.datas[i]? = some d) := hd
                    obtain ⟨d1, d2, d3, d4⟩ := HM.out.2.2.2 d (List.mem_of_getElem? hd)
                    have Y0 : Hid (w.cell? ⟨q, off + i * 5, none⟩ = some (.int .i64 d.align)) := y0
                    have Y2 : Hid (w.cell? ⟨q, off + i * 5 + 2, none⟩ = some (.int .i64 d.size)) := y2
                    have z1 := cell_any y1 HS5.out.2.1.1
                    have pu := pass_up HM.out.2.2.2 (fx := true) (D := (List.replicate p.datas.length 0)) (b := 0) i
                    have pb : ((i : Int) * 4112) ≤ 1233600 := by omega
                    have PN : Hid (passN true p.datas (List.replicate p.datas.length 0) 0 (i + 1) = if d.fixed = true then ((passN true p.datas (List.replicate p.datas.length 0) 0 i).1.set i (upA (passN true p.datas (List.replicate p.datas.length 0) 0 i).2 d.align), upA (passN true p.datas (List.replicate p.datas.length 0) 0 i).2 d.align + d.size) else (passN true p.datas (List.replicate p.datas.length 0) 0 i)) := by
                      by_cases e : d.fixed = true
                      · rw [if_pos e]; exact pass_step hd e
                      · rw [if_neg e]; exact pass_skip hd e
                    obtain ⟨al, fi, si, ba, bn, bc, ra, rn, rc⟩ := d
                    dsimp only at *
                    clear hd y0 y1 y2
                    have NX : Hid (∀ (w9 : World) (DL : List Int) (b : Int), (RefSt w w9 w.heap.size (w.heap.size + 1) X g h [.slice fa F fc, .slice (some ⟨q, off, none⟩) D dc, .int .i64 e0] F D G DL wd b 0) → passN true p.datas (List.replicate p.datas.length 0) 0 (i + 1) = (DL, b) → RefSt w w9 w.heap.size (w.heap.size + 1) X g h [.slice fa F fc, .slice (some ⟨q, off, none⟩) D dc, .int .i64 e0] F D G (passN true p.datas (List.replicate p.datas.length 0) 0 (i + 1)).1 wd (passN true p.datas (List.replicate p.datas.length 0) 0 (i + 1)).2 0) := fun w9 DL b h1 h2 => by rw [h2]; exact h1
                    generalize (passN true p.datas (List.replicate p.datas.length 0) 0 i) = P1 at PN HS5 pu
                    obtain ⟨DL, b⟩ := P1
                    dsimp only at *
                    by_cases e : fi = true
                    · subst e
                      have HP2 : Hid (passN true p.datas (List.replicate p.datas.length 0) 0 (i + 1) = (DL.set i (upA b al), upA b al + si)) := by have h := PN.out; rw [if_pos rfl] at h; exact h
                      have UF := up_facts b al d1
                      have UN : Hid (∀ y : Int, b ≤ y → y < upA b al → ¬ y % al = 0) := fun y h1 h2 h3 => by have := up_least d1 h3 h1 (by omega); omega
                      generalize upA b al = u at HP2 UF UN
                      clear PN
                      go_wp2
                      go_loopw [143] (fun v wr => ∃ y : Int, b ≤ y ∧ y ≤ u ∧ RefSt w wr w.heap.size (w.heap.size + 1) X g h [.slice fa F fc, .slice (some ⟨q, off, none⟩) D dc, .int .i64 e0] F D G DL wd y 0) (fun v wr => (u - x3Of wr X).toNat)
                      case atStart => exact ⟨b, Int.le_refl _, UF.1, HS5.out⟩
                      case round =>
                        obtain ⟨y, hy1, hy2, hS6⟩ := hrel
                        have HS6 : Hid (RefSt w wr w.heap.size (w.heap.size + 1) X g h [.slice fa F fc, .slice (some ⟨q, off, none⟩) D dc, .int .i64 e0] F D G DL wd y 0) := hS6
                        clear hS6 HS5 p1 x1 z1
                        have p1 := HS6.out.1.1.1 1 _ rfl
                        have x1 := HS6.out.1.2.2.1.1 1 _ rfl
                        have x3 := HS6.out.1.2.2.1.1 3 _ rfl
                        have xf3 := HS6.out.1.2.2.1.2 3
                        have z0 := cell_any Y0.out HS6.out.2.1.1
                        by_cases hyu : y < u
                        · have m1 : (y % al != 0) = true := by simpa using UN.out y hy1 hyu
                          have hs1 : wrap64 (y + 1) = y + 1 := IntWalk.wrap64_in _ (by omega)
                          go_upto_region 27 with fail
                          go_quiet (fail)
                          go_wp2
                          go_roundw
                          case rel => exact ⟨y + 1, by omega, by omega, (HS6.out.drewN _).setX3 (y + 1)⟩
                          case measure =>
                            have h1 := ((HS6.out.drewN nq).setX3 (y + 1)).x3
                            have h2 := HS6.out.x3
                            first
                              | (rw [h1]; omega)
                              | (rw [h1, h2]; omega)
                        · have ey : u = y := by omega
                          subst ey
                          have m1 : (u % al != 0) = false := by simpa using UF.2.2
                          obtain ⟨ox, hox⟩ := get_some (l := DL) (k := i) (by rw [HS6.out.2.2.2.2]; omega)
                          have h0 := HS6.out.1.2.2.2.2.1 i _ (nums_get hox)
                          have h1 := HS6.out.1.2.2.2.2.2 i
                          clear hox
                          go_upto_region 27 with fail
                          go_quiet (fail)
                          go_upto_region 30 with fail
                          have HS7 : Hid (RefSt w ((wr.drewN nq).setCell ⟨h, i, none⟩ (.int .i64 u)) w.heap.size (w.heap.size + 1) X g h [.slice fa F fc, .slice (some ⟨q, off, none⟩) D dc, .int .i64 e0] F D G (DL.set i u) wd u 0) := (HS6.out.drewN nq).seth hid u
                          generalize ((wr.drewN nq).setCell ⟨h, i, none⟩ (.int .i64 u)) = w7 at HS7 ⊢
                          clear p1 x1 x3 xf3 z0 h0 h1 HS6
                          have p1 := HS7.out.1.1.1 1 _ rfl
                          have x3 := HS7.out.1.2.2.1.1 3 _ rfl
                          have xf3 := HS7.out.1.2.2.1.2 3
                          have z2 := cell_any Y2.out HS7.out.2.1.1
                          have hs2 : wrap64 (u + si) = u + si := IntWalk.wrap64_in _ (by omega)
                          go_region
                          all_goals
                            have HS8 : Hid (RefSt w (w7.setCell ⟨X, 3, none⟩ (.int .i64 (u + si))).drew w.heap.size (w.heap.size + 1) X g h [.slice fa F fc, .slice (some ⟨q, off, none⟩) D dc, .int .i64 e0] F D G (DL.set i u) wd (u + si) 0) := (HS7.out.setX3 (u + si)).drew
                            go_upto_region 25 with fail
                            generalize (w7.setCell ⟨X, 3, none⟩ (.int .i64 (u + si))).drew = w8 at HS8 ⊢
                            go_wp2
                            go_roundw
                            case rel => exact ⟨i + 1, by omega, by go_num, NX.out _ _ _ HS8.out HP2.out⟩
                            case measure => simp [intOf]; omega
                    · have em : (fi == true) = false := by simpa using e
                      have HP2 : Hid (passN true p.datas (List.replicate p.datas.length 0) 0 (i + 1) = (DL, b)) := by have h := PN.out; rw [if_neg e] at h; exact h
                      have em2 : fi = !true := by cases fi <;> simp at e ⊢
                      clear e PN
                      subst em2
                      go_wp2
                      go_roundw
                      case rel => exact ⟨i + 1, by omega, by go_num, NX.out _ _ _ HS5.out HP2.out⟩
                      case measure => simp [intOf]; omega
                  · have ei : D = i := by omega
                    subst ei
                    go_wp2
                    go_roundw
                    case rel => exact ⟨0 + 1, _, _, _, by omega, by go_num, .inr (.inl ⟨rfl, by unfold fixN; rw [EF.out.2.1], by unfold fixN; rw [EF.out.2.1], rfl⟩), HS5.out⟩
                    case measure => simp [intOf]
              · have HS : Hid (RefSt w wr w.heap.size (w.heap.size + 1) X g h [.slice fa F fc, .slice da D dc, .int .i64 e0] F D G (fixN p.datas).1 wd (fixN p.datas).2 0) := hS
                clear hS ht p0 p2 x0 g0
                have UF := up_facts (fixN p.datas).2 16 (by omega)
                have fu : 0 ≤ (fixN p.datas).2 ∧ (fixN p.datas).2 ≤ 1233600 := by
                  have h1 := pass_up HM.out.2.2.2 (fx := true) (D := List.replicate p.datas.length 0) (b := 0) p.datas.length
                  have h2 := HM.out.2.1
                  have h3 : (fixN p.datas).2 = (passN true p.datas (List.replicate p.datas.length 0) 0 p.datas.length).2 := rfl
                  omega
                have WE : Hid (writeZ p.datas = upA (fixN p.datas).2 16) := rfl
                have UN : Hid (∀ y : Int, (fixN p.datas).2 ≤ y → y < upA (fixN p.datas).2 16 → ¬ y % 16 = 0) := fun y h1 h2 h3 => by have := up_least (by omega : (1 : Int) ≤ 16) h3 h1 (by omega); omega
                have RN : Hid (restN p.datas = passN false p.datas (fixN p.datas).1 (writeZ p.datas) p.datas.length) := rfl
                rw [WE.out] at RN
                generalize upA (fixN p.datas).2 16 = uw at WE UF UN RN
                generalize (fixN p.datas).2 = b at HS UF UN fu
                generalize (fixN p.datas).1 = DF at HS RN
                have x3 := HS.out.1.2.2.1.1 3 _ rfl
                go_wp2
                go_loopw [109] (fun v wr => ∃ y : Int, b ≤ y ∧ y ≤ uw ∧ RefSt w wr w.heap.size (w.heap.size + 1) X g h [.slice fa F fc, .slice da D dc, .int .i64 e0] F D G DF wd y 0) (fun v wr => (uw - x3Of wr X).toNat)
                case atStart => exact ⟨b, Int.le_refl _, UF.1, HS.out⟩
                case round =>
                  obtain ⟨y, hy1, hy2, hS6⟩ := hrel
                  have HS6 : Hid (RefSt w wr w.heap.size (w.heap.size + 1) X g h [.slice fa F fc, .slice da D dc, .int .i64 e0] F D G DF wd y 0) := hS6
                  clear hS6 HS x3
                  have p1 := HS6.out.1.1.1 1 _ rfl
                  have x3 := HS6.out.1.2.2.1.1 3 _ rfl
                  have xf3 := HS6.out.1.2.2.1.2 3
                  have x4 := HS6.out.1.2.2.1.1 4 _ rfl
                  have xf4 := HS6.out.1.2.2.1.2 4
                  by_cases hyu : y < uw
                  · have m1 : (y % 16 != 0) = true := by simpa using UN.out y hy1 hyu
                    have hs1 : wrap64 (y + 1) = y + 1 := IntWalk.wrap64_in _ (by omega)
                    go_wp2
                    go_roundw
                    case rel => exact ⟨y + 1, by omega, by omega, HS6.out.setX3 (y + 1)⟩
                    case measure =>
                      have h1 := (HS6.out.setX3 (y + 1)).x3
                      have h2 := HS6.out.x3
                      first
                        | (rw [h1]; omega)
                        | (rw [h1, h2]; omega)
                  · have ey : uw = y := by omega
                    subst ey
                    have m1 : (uw % 16 != 0) = false := by simpa using UF.2.2
                    go_upto_region 23 with fail
                    have HS : Hid (RefSt w (wr.setCell ⟨X, 4, none⟩ (.int .i64 uw)) w.heap.size (w.heap.size + 1) X g h [.slice fa F fc, .slice da D dc, .int .i64 e0] F D G DF wd uw uw) := HS6.out.setX4 uw
                    generalize (wr.setCell ⟨X, 4, none⟩ (.int .i64 uw)) = w7 at HS ⊢
                    clear p1 x3 xf3 x4 xf4 HS6 UN
                    have p1 := HS.out.1.1.1 1 _ rfl
                    have pw : 0 ≤ uw ∧ uw ≤ 1233616 := by omega
                    go_wp2
                    go_loopw [11] (fun v wr => ∃ i : Nat, i ≤ D ∧ v = .int .i64 i ∧ RefSt w wr w.heap.size (w.heap.size + 1) X g h [.slice fa F fc, .slice da D dc, .int .i64 e0] F D G (passN false p.datas DF uw i).1 wd (passN false p.datas DF uw i).2 uw) (fun v _ => D - (intOf v).toNat)
                    case atStart => exact ⟨0, Nat.zero_le _, rfl, HS.out⟩
                    case round =>
                      obtain ⟨i, hi, rfl, hS⟩ := hrel
                      have HS5 : Hid (RefSt w wr w.heap.size (w.heap.size + 1) X g h [.slice fa F fc, .slice da D dc, .int .i64 e0] F D G (passN false p.datas DF uw i).1 wd (passN false p.datas DF uw i).2 uw) := hS
                      clear hS HS
                      have p1 := HS5.out.1.1.1 1 _ rfl
                      have x1 := HS5.out.1.2.2.1.1 1 _ rfl
                      by_cases hid : i < D
                      · have hid' : (i : Int) < D := by omega
                        obtain ⟨q, off, d, rfl, -, hd, y0, y1, y2, -, -, -, -⟩ := DX.out i hid
                        have HD : Hid (p.datas[i]? = some d) := hd
                        obtain ⟨d1, d2, d3, d4⟩ := HM.out.2.2.2 d (List.mem_of_getElem? hd)
                        have Y0 : Hid (w.cell? ⟨q, off + i * 5, none⟩ = some (.int .i64 d.align)) := y0
                        have Y2 : Hid (w.cell? ⟨q, off + i * 5 + 2, none⟩ = some (.int .i64 d.size)) := y2
                        have z1 := cell_any y1 HS5.out.2.1.1
                        have pu := pass_up HM.out.2.2.2 (fx := false) (D := DF) (b := uw) i
                        have pb : ((i : Int) * 4112) ≤ 1233600 := by omega
                        have PN : Hid (passN false p.datas DF uw (i + 1) = if d.fixed = false then ((passN false p.datas DF uw i).1.set i (upA (passN false p.datas DF uw i).2 d.align), upA (passN false p.datas DF uw i).2 d.align + d.size) else (passN false p.datas DF uw i)) := by
                          by_cases e : d.fixed = false
                          · rw [if_pos e]; exact pass_step hd e
                          · rw [if_neg e]; exact pass_skip hd e
                        obtain ⟨al, fi, si, ba, bn, bc, ra, rn, rc⟩ := d
                        dsimp only at *
                        clear hd y0 y1 y2
                        have NX : Hid (∀ (w9 : World) (DL : List Int) (b : Int), (RefSt w w9 w.heap.size (w.heap.size + 1) X g h [.slice fa F fc, .slice (some ⟨q, off, none⟩) D dc, .int .i64 e0] F D G DL wd b uw) → passN false p.datas DF uw (i + 1) = (DL, b) → RefSt w w9 w.heap.size (w.heap.size + 1) X g h [.slice fa F fc, .slice (some ⟨q, off, none⟩) D dc, .int .i64 e0] F D G (passN false p.datas DF uw (i + 1)).1 wd (passN false p.datas DF uw (i + 1)).2 uw) := fun w9 DL b h1 h2 => by rw [h2]; exact h1
                        generalize (passN false p.datas DF uw i) = P1 at PN HS5 pu
                        obtain ⟨DL, b⟩ := P1
                        dsimp only at *
                        by_cases e : fi = false
                        · subst e
                          have HP2 : Hid (passN false p.datas DF uw (i + 1) = (DL.set i (upA b al), upA b al + si)) := by have h := PN.out; rw [if_pos rfl] at h; exact h
                          have UF := up_facts b al d1
                          have UN : Hid (∀ y : Int, b ≤ y → y < upA b al → ¬ y % al = 0) := fun y h1 h2 h3 => by have := up_least d1 h3 h1 (by omega); omega
                          generalize upA b al = u at HP2 UF UN
                          clear PN
                          go_wp2
                          go_loopw [143] (fun v wr => ∃ y : Int, b ≤ y ∧ y ≤ u ∧ RefSt w wr w.heap.size (w.heap.size + 1) X g h [.slice fa F fc, .slice (some ⟨q, off, none⟩) D dc, .int .i64 e0] F D G DL wd y uw) (fun v wr => (u - x3Of wr X).toNat)
                          case atStart => exact ⟨b, Int.le_refl _, UF.1, HS5.out⟩
                          case round =>
                            obtain ⟨y, hy1, hy2, hS6⟩ := hrel
                            have HS6 : Hid (RefSt w wr w.heap.size (w.heap.size + 1) X g h [.slice fa F fc, .slice (some ⟨q, off, none⟩) D dc, .int .i64 e0] F D G DL wd y uw) := hS6
                            clear hS6 HS5 p1 x1 z1
                            have p1 := HS6.out.1.1.1 1 _ rfl
                            have x1 := HS6.out.1.2.2.1.1 1 _ rfl
                            have x3 := HS6.out.1.2.2.1.1 3 _ rfl
                            have xf3 := HS6.out.1.2.2.1.2 3
                            have z0 := cell_any Y0.out HS6.out.2.1.1
                            by_cases hyu : y < u
                            · have m1 : (y % al != 0) = true := by simpa using UN.out y hy1 hyu
                              have hs1 : wrap64 (y + 1) = y + 1 := IntWalk.wrap64_in _ (by omega)
                              go_upto_region 27 with fail
                              go_quiet (fail)
                              go_wp2
                              go_roundw
                              case rel => exact ⟨y + 1, by omega, by omega, (HS6.out.drewN _).setX3 (y + 1)⟩
                              case measure =>
                                have h1 := ((HS6.out.drewN nq).setX3 (y + 1)).x3
                                have h2 := HS6.out.x3
                                first
                                  | (rw [h1]; omega)
                                  | (rw [h1, h2]; omega)
                            · have ey : u = y := by omega
                              subst ey
                              have m1 : (u % al != 0) = false := by simpa using UF.2.2
                              obtain ⟨ox, hox⟩ := get_some (l := DL) (k := i) (by rw [HS6.out.2.2.2.2]; omega)
                              have h0 := HS6.out.1.2.2.2.2.1 i _ (nums_get hox)
                              have h1 := HS6.out.1.2.2.2.2.2 i
                              clear hox
                              go_upto_region 27 with fail
                              go_quiet (fail)
                              go_upto_region 30 with fail
                              have HS7 : Hid (RefSt w ((wr.drewN nq).setCell ⟨h, i, none⟩ (.int .i64 u)) w.heap.size (w.heap.size + 1) X g h [.slice fa F fc, .slice (some ⟨q, off, none⟩) D dc, .int .i64 e0] F D G (DL.set i u) wd u uw) := (HS6.out.drewN nq).seth hid u
                              generalize ((wr.drewN nq).setCell ⟨h, i, none⟩ (.int .i64 u)) = w7 at HS7 ⊢
                              clear p1 x1 x3 xf3 z0 h0 h1 HS6
                              have p1 := HS7.out.1.1.1 1 _ rfl
                              have x3 := HS7.out.1.2.2.1.1 3 _ rfl
                              have xf3 := HS7.out.1.2.2.1.2 3
                              have z2 := cell_any Y2.out HS7.out.2.1.1
                              have hs2 : wrap64 (u + si) = u + si := IntWalk.wrap64_in _ (by omega)
                              go_region
                              all_goals
                                have HS8 : Hid (RefSt w (w7.setCell ⟨X, 3, none⟩ (.int .i64 (u + si))).drew w.heap.size (w.heap.size + 1) X g h [.slice fa F fc, .slice (some ⟨q, off, none⟩) D dc, .int .i64 e0] F D G (DL.set i u) wd (u + si) uw) := (HS7.out.setX3 (u + si)).drew
                                go_upto_region 25 with fail
                                generalize (w7.setCell ⟨X, 3, none⟩ (.int .i64 (u + si))).drew = w8 at HS8 ⊢
                                go_wp2
                                go_roundw
                                case rel => exact ⟨i + 1, by omega, by go_num, NX.out _ _ _ HS8.out HP2.out⟩
                                case measure => simp [intOf]; omega
                        · have em : (fi == false) = false := by simpa using e
                          have HP2 : Hid (passN false p.datas DF uw (i + 1) = (DL, b)) := by have h := PN.out; rw [if_neg e] at h; exact h
                          have em2 : fi = !false := by cases fi <;> simp at e ⊢
                          clear e PN
                          subst em2
                          go_wp2
                          go_roundw
                          case rel => exact ⟨i + 1, by omega, by go_num, NX.out _ _ _ HS5.out HP2.out⟩
                          case measure => simp [intOf]; omega
                      · have ei : D = i := by omega
                        subst ei
                        go_wp2
                        go_roundw
                        case rel => first | exact ⟨1 + 1, _, _, _, by omega, by go_num, .inr (.inr ⟨rfl, by rw [RN.out, EF.out.2.1], by rw [RN.out, EF.out.2.1], WE.out.symm⟩), HS5.out⟩ | ((repeat apply Exists.intro); refine ⟨⟨1 + 1, _, _, _, by omega, ?_, .inr (.inr ⟨rfl, by rw [RN.out, EF.out.2.1], by rw [RN.out, EF.out.2.1], WE.out.symm⟩), HS5.out⟩, rfl⟩; first | rfl | go_num)
                        case measure => simp [intOf]
              · have HS : Hid (RefSt w wr w.heap.size (w.heap.size + 1) X g h [.slice fa F fc, .slice da D dc, .int .i64 e0] F D G (restN p.datas).1 wd (restN p.datas).2 (writeZ p.datas)) := hS
                clear hS ht
                have PO : Hid (∀ hn : ¬ (65536 < wd ∨ 65536 < (restN p.datas).2), planZ p o = (0, ⟨G, (restN p.datas).1, wd, (restN p.datas).2, writeZ p.datas⟩)) := fun hn => plan_ok HCO.out YE.out hn
                have PL : Hid ((65536 < wd ∨ 65536 < (restN p.datas).2) → planZ p o = (8, noPlan)) := fun hn => plan_long HCO.out YE.out hn
                generalize (restN p.datas).1 = DR at HS PO
                generalize (restN p.datas).2 = bt at HS PO PL
                generalize writeZ p.datas = wt at HS PO
                clear p0 p2 x0 g0
                have x0 := HS.out.1.2.2.1.1 0 _ rfl
                have x1 := HS.out.1.2.2.1.1 1 _ rfl
                have x2 := HS.out.1.2.2.1.1 2 _ rfl
                have x3 := HS.out.1.2.2.1.1 3 _ rfl
                have x4 := HS.out.1.2.2.1.1 4 _ rfl
                by_cases hw : 65536 < wd
                · have hdw : decide (65536 < wd) = true := by simpa using hw
                  have HW : Hid (65536 < wd) := hw
                  clear hw
                  have HB : Hid (planZ p o = (8, noPlan)) := PL.out (.inl HW.out)
                  have r0 := HS.out.1.2.1.1 0 _ rfl
                  have r1 := HS.out.1.2.1.1 1 _ rfl
                  have r2 := HS.out.1.2.1.1 2 _ rfl
                  have r3 := HS.out.1.2.1.1 3 _ rfl
                  have r4 := HS.out.1.2.1.1 4 _ rfl
                  have f0 := HS.out.1.2.1.2 0
                  have f1 := HS.out.1.2.1.2 1
                  have f2 := HS.out.1.2.1.2 2
                  have f3 := HS.out.1.2.1.2 3
                  have f4 := HS.out.1.2.1.2 4
                  go_wp2
                  rw [set5_eq]
                  have RZ : Hid (XAt (set5 wr (w.heap.size + 1) (.slice none 0 0) (.slice none 0 0) (.int .i64 0) (.int .i64 0) (.int .i64 0)) (w.heap.size + 1) [.slice none 0 0, .slice none 0 0, .int .i64 0, .int .i64 0, .int .i64 0]) := xat_set5 HS.out.1.2.1
                  have BZ : Hid (Below w.heap.size w (set5 wr (w.heap.size + 1) (.slice none 0 0) (.slice none 0 0) (.int .i64 0) (.int .i64 0) (.int .i64 0))) := below_set5 HS.out.2.1.1 (by omega)
                  generalize (set5 wr (w.heap.size + 1) (.slice none 0 0) (.slice none 0 0) (.int .i64 0) (.int .i64 0) (.int .i64 0)) = w8 at RZ BZ ⊢
                  have z0 := RZ.out.1 0 _ rfl
                  have z1 := RZ.out.1 1 _ rfl
                  have z2 := RZ.out.1 2 _ rfl
                  have z3 := RZ.out.1 3 _ rfl
                  have z4 := RZ.out.1 4 _ rfl
                  refine bodyPost_ret (v := .tuple #[.agg #[.slice none 0 0, .slice none 0 0, .int .i64 0, .int .i64 0, .int .i64 0], .int .i64 8]) ?_ rfl ⟨⟨_, by rw [HB.out], by rw [HB.out]; exact IsPlan.none⟩, BZ.out⟩
                  simp [results, Try.results11, go_sem, z0, z1, z2, z3, z4]
                have hdw : decide (65536 < wd) = false := by simpa using hw
                have HW : Hid (¬ 65536 < wd) := hw
                clear hw
                by_cases hb : 65536 < bt
                · have hdb : decide (65536 < bt) = true := by simpa using hb
                  have HW2 : Hid (65536 < bt) := hb
                  clear hb
                  have HB : Hid (planZ p o = (8, noPlan)) := PL.out (.inr HW2.out)
                  have r0 := HS.out.1.2.1.1 0 _ rfl
                  have r1 := HS.out.1.2.1.1 1 _ rfl
                  have r2 := HS.out.1.2.1.1 2 _ rfl
                  have r3 := HS.out.1.2.1.1 3 _ rfl
                  have r4 := HS.out.1.2.1.1 4 _ rfl
                  have f0 := HS.out.1.2.1.2 0
                  have f1 := HS.out.1.2.1.2 1
                  have f2 := HS.out.1.2.1.2 2
                  have f3 := HS.out.1.2.1.2 3
                  have f4 := HS.out.1.2.1.2 4
                  go_wp2
                  rw [set5_eq]
                  have RZ : Hid (XAt (set5 wr (w.heap.size + 1) (.slice none 0 0) (.slice none 0 0) (.int .i64 0) (.int .i64 0) (.int .i64 0)) (w.heap.size + 1) [.slice none 0 0, .slice none 0 0, .int .i64 0, .int .i64 0, .int .i64 0]) := xat_set5 HS.out.1.2.1
                  have BZ : Hid (Below w.heap.size w (set5 wr (w.heap.size + 1) (.slice none 0 0) (.slice none 0 0) (.int .i64 0) (.int .i64 0) (.int .i64 0))) := below_set5 HS.out.2.1.1 (by omega)
                  generalize (set5 wr (w.heap.size + 1) (.slice none 0 0) (.slice none 0 0) (.int .i64 0) (.int .i64 0) (.int .i64 0)) = w8 at RZ BZ ⊢
                  have z0 := RZ.out.1 0 _ rfl
                  have z1 := RZ.out.1 1 _ rfl
                  have z2 := RZ.out.1 2 _ rfl
                  have z3 := RZ.out.1 3 _ rfl
                  have z4 := RZ.out.1 4 _ rfl
                  refine bodyPost_ret (v := .tuple #[.agg #[.slice none 0 0, .slice none 0 0, .int .i64 0, .int .i64 0, .int .i64 0], .int .i64 8]) ?_ rfl ⟨⟨_, by rw [HB.out], by rw [HB.out]; exact IsPlan.none⟩, BZ.out⟩
                  simp [results, Try.results11, go_sem, z0, z1, z2, z3, z4]
                have hdb : decide (65536 < bt) = false := by simpa using hb
                have HB : Hid (planZ p o = (0, ⟨G, DR, wd, bt, wt⟩)) := PO.out (fun q => q.elim HW.out hb)
                clear hb
                have r0 := HS.out.1.2.1.1 0 _ rfl
                have r1 := HS.out.1.2.1.1 1 _ rfl
                have r2 := HS.out.1.2.1.1 2 _ rfl
                have r3 := HS.out.1.2.1.1 3 _ rfl
                have r4 := HS.out.1.2.1.1 4 _ rfl
                have f0 := HS.out.1.2.1.2 0
                have f1 := HS.out.1.2.1.2 1
                have f2 := HS.out.1.2.1.2 2
                have f3 := HS.out.1.2.1.2 3
                have f4 := HS.out.1.2.1.2 4
                go_wp2
                rw [set5_eq]
                have RZ : Hid (XAt (set5 wr (w.heap.size + 1) (.slice (some ⟨g, 0, none⟩) F F) (.slice (some ⟨h, 0, none⟩) D D) (.int .i64 wd) (.int .i64 bt) (.int .i64 wt)) (w.heap.size + 1) [.slice (some ⟨g, 0, none⟩) F F, .slice (some ⟨h, 0, none⟩) D D, .int .i64 wd, .int .i64 bt, .int .i64 wt]) := xat_set5 HS.out.1.2.1
                have GZ : Hid (XAt (set5 wr (w.heap.size + 1) (.slice (some ⟨g, 0, none⟩) F F) (.slice (some ⟨h, 0, none⟩) D D) (.int .i64 wd) (.int .i64 bt) (.int .i64 wt)) g (nums G)) := xat_other5 HS.out.1.2.2.2.1 (HS.out.2.2.1.2.2.2.2.1).symm
                have HZ : Hid (XAt (set5 wr (w.heap.size + 1) (.slice (some ⟨g, 0, none⟩) F F) (.slice (some ⟨h, 0, none⟩) D D) (.int .i64 wd) (.int .i64 bt) (.int .i64 wt)) h (nums DR)) := xat_other5 HS.out.1.2.2.2.2 (HS.out.2.2.1.2.2.2.2.2.1).symm
                have BZ : Hid (Below w.heap.size w (set5 wr (w.heap.size + 1) (.slice (some ⟨g, 0, none⟩) F F) (.slice (some ⟨h, 0, none⟩) D D) (.int .i64 wd) (.int .i64 bt) (.int .i64 wt))) := below_set5 HS.out.2.1.1 (by omega)
                obtain ⟨-, -, -, -, q5, q6, q7, q8, -⟩ := HS.out.2.1
                have ZZ : Hid (g < (set5 wr (w.heap.size + 1) (.slice (some ⟨g, 0, none⟩) F F) (.slice (some ⟨h, 0, none⟩) D D) (.int .i64 wd) (.int .i64 bt) (.int .i64 wt)).heap.size ∧ h < (set5 wr (w.heap.size + 1) (.slice (some ⟨g, 0, none⟩) F F) (.slice (some ⟨h, 0, none⟩) D D) (.int .i64 wd) (.int .i64 bt) (.int .i64 wt)).heap.size) := by rw [size_set5]; exact ⟨q7, q8⟩
                generalize (set5 wr (w.heap.size + 1) (.slice (some ⟨g, 0, none⟩) F F) (.slice (some ⟨h, 0, none⟩) D D) (.int .i64 wd) (.int .i64 bt) (.int .i64 wt)) = w8 at RZ GZ HZ BZ ZZ ⊢
                have z0 := RZ.out.1 0 _ rfl
                have z1 := RZ.out.1 1 _ rfl
                have z2 := RZ.out.1 2 _ rfl
                have z3 := RZ.out.1 3 _ rfl
                have z4 := RZ.out.1 4 _ rfl
                have HGl : G.length = F := HS.out.2.2.2.1
                have HDl : DR.length = D := HS.out.2.2.2.2
                refine bodyPost_ret (v := .tuple #[.agg #[.slice (some ⟨g, 0, none⟩) F F, .slice (some ⟨h, 0, none⟩) D D, .int .i64 wd, .int .i64 bt, .int .i64 wt], .int .i64 0]) ?_ rfl ⟨⟨_, by rw [HB.out], by rw [HB.out]; exact ⟨_, _, rfl, .inr ⟨g, by rw [HGl], q5, ZZ.out.1, GZ.out, by rw [HGl]; unfold maxLen; omega⟩, .inr ⟨h, by rw [HDl], q6, ZZ.out.2, HZ.out, by rw [HDl]; unfold maxLen; omega⟩, fun a n c b m d h1 h2 => by
                  simp only [Value.slice.injEq, Option.some.injEq] at h1 h2
                  rw [← h1.1, ← h2.1]; exact HS.out.2.2.1.2.2.2.2.2.2.2.2⟩⟩, BZ.out⟩
                simp [results, Try.results11, go_sem, z0, z1, z2, z3, z4]
end Go.Proofs.Ythhnmlhajfmhfaa
