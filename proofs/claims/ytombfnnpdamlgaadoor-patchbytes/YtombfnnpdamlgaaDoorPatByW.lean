/- PatchBytes, walked. -/
import Derived.Test.YtombfnnpdamlgaaDoorPatPlan
import Derived.Test.YtombfnnpdamlgaaDoorPatFrame
import Derived.Test.YtombfnnpdamlgaaDoorPatByM
namespace Go.Proofs.YtombfnnpdamlgaaDoor
open Go.ChangeShapes Go.WideShapes Go.ChangeAt Go.RowKit
set_option linter.unusedVariables false
set_option linter.unusedSimpArgs false
section
set_option maxRecDepth 100000
/-- A program that came in, with its list of functions' bound. -/
theorem open_progS {H : Type} {enc : TypeId × Value → H} {W : World} {r : Reach} {b0 base : Nat} {sp : Nat → Bool} {held : Bool} {v : Value} {d : DataW H} {p : List MemPlace}
    (hv : Value.okWide Tryd.prog W r b0 25 v) (h : DataW.Trod enc Tryd.prog W base sp held 25 v d p) : ∃ o : ProgM, IsProg Any8 W v o ∧ ((DataW.weightsEach Tryd.prog [25] [d]).all (fun x => decide (x ≤ reachBytes)) = true → o.funcs.length * 72 ≤ 140737488351232) := by
  obtain ⟨cs, rfl, hsz⟩ := Go.WideShapes.okWide_struct Tryd.underlying25 hv
  obtain ⟨fuel, hf⟩ := h
  obtain ⟨xs, n, _, hx, hl, hlen, hfs⟩ := DataW.trod_struct Tryd.underlying25 hf
  have hc : Tryd.prog.cellsOf 25 = 3 := by kernel_rfl
  rw [hc] at hsz
  have hl2 : xs.length = 3 := hlen
  obtain ⟨l⟩ := cs
  have hl' : l.length = 3 := hsz
  match xs, hl2, l, hl' with
  | [z0, z1, z2], _, [c0, c1, c2], _ =>
    have h0 : DataW.trod enc Tryd.prog W base sp held n 22 (List.take (Tryd.prog.cellsOf 22) [c0, c1, c2]) = some z0 := hfs 0 _ rfl
    have h1 : DataW.trod enc Tryd.prog W base sp held n 23 (List.take (Tryd.prog.cellsOf 23) [c1, c2]) = some z1 := hfs 1 _ rfl
    have h2 : DataW.trod enc Tryd.prog W base sp held n 3 (List.take (Tryd.prog.cellsOf 3) [c2]) = some z2 := hfs 2 _ rfl
    rw [k_pfs] at h0
    rw [k_pds] at h1
    rw [k_int] at h2
    obtain ⟨v0, l0, e0, q0⟩ := open_pfs h0
    obtain ⟨v1, l1, e1, q1⟩ := open_pds h1
    obtain ⟨x2, e2, _, _⟩ := DataW.trod_int Tryd.underlying3 h2
    simp at e0 e1 e2
    subst e0 e1 e2
    refine ⟨⟨l0, l1, x2⟩, ⟨_, _, rfl, q0, q1⟩, fun hw => ?_⟩
    show l0.length * 72 ≤ 140737488351232
    rcases DataW.trod_slice Tryd.underlying22 h0 with ⟨hcs, _⟩ | ⟨a', len', cap', elems, rest, n', _, hcs, hz, _, _, _, hlen', _, _, _⟩
    · obtain ⟨a, c, e, -⟩ := q0
      simp at hcs
      rw [hcs] at e
      injection e with e1 e2 e3
      omega
    · obtain ⟨a, c, e, -⟩ := q0
      simp at hcs
      rw [hcs] at e
      injection e with e1 e2 e3
      have hd : d = .agg [z0.1, z1.1, z2.1] := by injection hx
      have hb : Tryd.prog.bytesOf 44 = 72 := by kernel_rfl
      rw [hd, hz] at hw
      simp only [DataW.weightsEach, DataW.weights, Tryd.underlying25, Tryd.underlying22, List.map_cons, List.map_nil, List.cons_append, List.all_cons, Bool.and_eq_true, decide_eq_true_eq, hb, List.length_map] at hw
      have h1 := hw.1
      unfold reachBytes at h1
      omega
end
set_option maxRecDepth 100000 in
set_option maxHeartbeats 4000000 in
theorem all_big {w : World} {v : Value} {p : ProgZ} (h : IsP w v p) (hm : p.codes.length * 72 ≤ 140737488351232) :
    Calls Tryd.prog 18 #[v] w fun e w' => (∃ g, e = .returned (.slice (some ⟨g, 0, none⟩) p.codes.length p.codes.length) ∧ w.heap.size ≤ g ∧ g < w'.heap.size ∧ XAt w' g (nums (iotaZ p.codes.length))) ∧ Below w.heap.size w w' := by
  obtain ⟨vf, vd, rfl, hf, hd⟩ := h
  obtain ⟨fa, fc, rfl, -, -, -⟩ := LstA.open hf
  obtain ⟨da, dc, rfl, -, -, -⟩ := LstA.open hd
  obtain ⟨F, eF⟩ : ∃ F, p.codes.length = F := ⟨_, rfl⟩
  obtain ⟨D, eD⟩ : ∃ D, p.datas.length = D := ⟨_, rfl⟩
  obtain ⟨E, eE⟩ : ∃ E, p.entry = E := ⟨_, rfl⟩
  rw [eF] at hm ⊢
  rw [eD, eE]
  clear hf hd eF eD eE
  obtain ⟨i0, hi, hz0, hz1, hz2⟩ := info_parts intI
  have hF' : (F : Int) ≤ 1954687338213 := by omega
  obtain ⟨W0, eW0⟩ : ∃ W0, w.alloc (.cells #[.slice fa F fc, .slice da D dc, .int .i64 E] 25) = W0 := ⟨_, rfl⟩
  have UP : Hid (Below w.heap.size w W0) := by rw [← eW0]; exact keep_alloc8 (Below.refl _ _) _
  have XA : Hid (XAt W0 w.heap.size [.slice fa F fc, .slice da D dc, .int .i64 E]) := by rw [← eW0]; exact XAt.new w _ _
  have ha : Hid (w.heap.size < W0.heap.size) := XA.out.lt (by simp)
  have p0 := XA.out.1 0 _ rfl
  go_enter Tryd.func18, Tryd.ntmps18
  go_upto_region 1 with fail
  try rw [eW0]
  clear eW0
  go_upto_region 2 with (at_make; refine wpList_make_full _ rfl _ _ 26 rfl _ 3 i0 (.int .i64 0) 1 Tryd.underlying26 hi hz0 hz1 .i64 .i64 _ _ F rfl rfl rfl rfl (by rw [hz2]; omega) (by unfold maxLen; omega) (Nat.le_refl _) ?_; intro w2 own2 gr2)
  have B2 : Hid (Below w.heap.size w w2) := bnext UP.out (grew_below gr2)
  have G2 : Hid (W0.heap.size < w2.heap.size ∧ XAt w2 W0.heap.size (nums (List.replicate F 0))) := by
    have h := own_heap own2; rw [zeros_nums] at h; exact ⟨lt_heap h.2, xat_heap h.2⟩
  clear own2 gr2 p0
  obtain ⟨g, eg⟩ : ∃ g, W0.heap.size = g := ⟨_, rfl⟩
  rw [eg] at ha G2 ⊢
  clear eg XA UP
  go_wp2
  go_loopw [11] (fun i wr => ∃ k : Nat, ∃ L : List Int, k ≤ F ∧ i = .int .i64 k ∧ L.length = F ∧ (∀ j, j < k → L[j]? = some (j : Int)) ∧ XAt wr g (nums L) ∧ Below w.heap.size w wr ∧ g < wr.heap.size) (fun i _ => F - (intOf i).toNat)
  case atStart => exact ⟨0, List.replicate F 0, Nat.zero_le _, rfl, by simp, (fun j hj => by omega), G2.out.2, B2.out, G2.out.1⟩
  case round =>
    obtain ⟨k, L, hk, rfl, hl, hj, hx, hb, hs⟩ := hrel
    have HL : Hid (L.length = F ∧ (∀ j, j < k → L[j]? = some (j : Int)) ∧ XAt wr g (nums L) ∧ Below w.heap.size w wr ∧ g < wr.heap.size) := ⟨hl, hj, hx, hb, hs⟩
    clear hl hj hx hb hs
    by_cases hlt : k < F
    · have hlt' : (k : Int) < F := by omega
      obtain ⟨x, hx⟩ := get_some (l := L) (k := k) (by have := HL.out.1; omega)
      have g0 := HL.out.2.2.1.1 k _ (nums_get hx)
      have g1 := HL.out.2.2.1.2 k
      clear hx
      go_upto_region 6 with fail
      have X4 : Hid (XAt (wr.setCell ⟨g, k, none⟩ (.int .i64 k)) g (nums (L.set k k))) := xnum_set HL.out.2.2.1 (by have := HL.out.1; omega) _
      have B4 : Hid (Below w.heap.size w (wr.setCell ⟨g, k, none⟩ (.int .i64 k))) := HL.out.2.2.2.1.setCell (by show w.heap.size ≤ g; have := ha.out; omega) _
      have S4 : Hid (g < (wr.setCell ⟨g, k, none⟩ (.int .i64 k)).heap.size) := by have := HL.out.2.2.2.2; simpa [Hid] using this
      generalize (wr.setCell ⟨g, k, none⟩ (.int .i64 k)) = w4 at X4 B4 S4 ⊢
      go_wp2
      go_roundw
      case rel => exact ⟨k + 1, L.set k k, by omega, by go_num, by rw [List.length_set]; exact HL.out.1, (fun j hj => by
        by_cases e : k = j
        · subst e; exact List.getElem?_set_self (by have := HL.out.1; omega)
        · rw [List.getElem?_set_ne e]; exact HL.out.2.1 j (by omega)), X4.out, B4.out, S4.out⟩
      case measure => simp [intOf]; omega
    · obtain rfl : k = F := by omega
      go_wp2
      go_ret
      exact ⟨⟨g, rfl, by have := ha.out; omega, HL.out.2.2.2.2, by rw [← iota_of HL.out.1 HL.out.2.1]; exact HL.out.2.2.1⟩, HL.out.2.2.2.1⟩
set_option maxRecDepth 100000 in
set_option maxHeartbeats 4000000 in
theorem pbytes_walk (w : World) (v : Value) (p : ProgM) (h : IsProg Any8 w v p) (hF : p.funcs.length * 72 ≤ 140737488351232) (hT : Tab w) :
    Calls Tryd.prog 6 #[v] w fun e w' => e = .returned (.bool true) ∧ Below w.heap.size w w' := by
  obtain ⟨z, hz, ho⟩ := h.place
  have hnf := ho.nf
  have hnd := ho.2.2.1
  have AW : Hid (∀ W, Below w.heap.size w W → Calls Tryd.prog 8 #[] W fun e w' => e = .returned (.bool true) ∧ Below W.heap.size W w') := fun W hW => awake13 W (hT.later hW)
  have AL : Hid (∀ W, Below w.heap.size w W → Calls Tryd.prog 18 #[v] W fun e w' => (∃ g, e = .returned (.slice (some ⟨g, 0, none⟩) z.codes.length z.codes.length) ∧ W.heap.size ≤ g ∧ g < w'.heap.size ∧ XAt w' g (nums (iotaZ z.codes.length))) ∧ Below W.heap.size W w') := fun W hW => all_big (hz.later hW) (by rw [hnf]; exact hF)
  have FI : Hid (∀ W vo, Below w.heap.size w W → IsNums W vo (iotaZ z.codes.length) → Calls Tryd.prog 9 #[v, vo] W fun e w' => OnlyIf e (MayB z ∧ RightP p ∧ (iotaZ z.codes.length).length ≤ 400) ∧ Below W.heap.size W w') := fun W vo hW hn => fine_any (h.later hW) (hz.later hW) ho hn
  have PL : Hid (MayB z → ∀ W vo, Below w.heap.size w W → IsNums W vo (iotaZ z.codes.length) → Calls Tryd.prog 10 #[v, vo] W fun e w' => PlanPost W.heap.size (planZ z (iotaZ z.codes.length)) e w' ∧ Below W.heap.size W w') := fun hm W vo hW hn => plan_any (hz.later hW) hn hm.may (by rw [iota_len]; have := hm.1; omega)
  have C2 : Hid (∀ W vx x base, Below w.heap.size w W → MayB z → RightP p → planZ z (iotaZ z.codes.length) = (0, x) → IsPlan base W vx x → PlanOk p.funcs.length p.datas.length x ∧ ∀ k : Nat, k < z.datas.length → ∃ D, p.datas[k]? = some D ∧ DtOk p.datas.length D ∧ 1 ≤ D.size ∧ D.size ≤ 4096 ∧ (D.bytes.length : Int) ≤ D.size ∧
      (∀ W', Below W.heap.size W W' → Calls Tryd.prog 14 #[v, vx, .int .i64 k] W' fun e w' => RowPost .u8 W'.heap.size (dataZ x D) e w' ∧ Below W'.heap.size W' w')) := fun W vx x base hW hm hr hp hx => by
    obtain ⟨hok, -⟩ := plan_good hm ho hp
    refine ⟨hok, fun k hk => ?_⟩
    obtain ⟨D, hD⟩ := get_some (l := p.datas) (k := k) (by rw [← ho.2.2.1]; exact hk)
    obtain ⟨s1, s2, s3⟩ := hm.size ho D (List.mem_of_getElem? hD)
    exact ⟨D, hD, hr.2 D (List.mem_of_getElem? hD), s1, s2, s3, fun W' hW' => pdata_any (h.later (bnext hW hW')) (hx.later hW') hr hok k hD s1 s2 s3⟩
  obtain ⟨vf, vd, rfl, hf, hd⟩ := h
  obtain ⟨fa, fc, rfl, fm, -, fx⟩ := LstA.open hf
  obtain ⟨da, dc, rfl, dm, -, dx⟩ := LstA.open hd
  have fm' := may_len fm
  have dm' := may_len dm
  obtain ⟨nf, enf⟩ : ∃ n, p.funcs.length = n := ⟨_, rfl⟩
  obtain ⟨nd, endd⟩ : ∃ n, p.datas.length = n := ⟨_, rfl⟩
  obtain ⟨E, eE⟩ : ∃ n, p.entry = n := ⟨_, rfl⟩
  have DX : Hid (∀ (k : Nat) D, p.datas[k]? = some D → ∃ b off, da = some ⟨b, off, none⟩ ∧ ∃ ca m cc ra rn rc, w.cell? ⟨b, off + k * 5 + 3, none⟩ = some (.slice ca m cc) ∧ w.cell? ⟨b, off + k * 5 + 4, none⟩ = some (.slice ra rn rc) ∧ IsBytes Any8 w (.slice ca m cc) D.bytes ∧ D.bytes.length = m ∧ IsPRels Any8 w (.slice ra rn rc) D.rels ∧ D.rels.length = rn ∧ rn ≤ maxLen) := fun k D hD => by
    obtain ⟨b, off, D', e, hA, hD', vc, vr, -, -, -, f3, f4, hw, hr⟩ := dx k (get_lt hD)
    rw [hD] at hD'
    injection hD' with hD'
    subst hD'
    obtain ⟨a, c, rfl, -⟩ := bytes_form hw
    obtain ⟨a', c', rfl, l'⟩ := prels_form hr
    exact ⟨b, off, e, a, _, c, a', _, c', f3, f4, hw, rfl, hr, rfl, l'⟩
  rw [hnf] at AL FI PL C2
  rw [hnd] at C2
  rw [enf, endd, eE] at AL FI PL C2 ⊢
  rw [enf] at fm'
  rw [endd] at dm'
  clear hz hf hd hT fx dx fm dm enf endd eE hF hnf hnd
  have X0 := XAt.new w #[.slice fa nf fc, .slice da nd dc, .int .i64 E] 25
  have UP := keep_alloc8 (Below.refl w.heap.size w) (.cells #[.slice fa nf fc, .slice da nd dc, .int .i64 E] 25)
  go_enter Tryd.func6, Tryd.ntmps6
  go_upto_region 1 with fail
  generalize w.alloc (.cells #[.slice fa nf fc, .slice da nd dc, .int .i64 E] 25) = w0 at X0 UP ⊢
  have U0 : Hid (Below w.heap.size w w0) := UP
  have X0' : Hid (XAt w0 w.heap.size [.slice fa nf fc, .slice da nd dc, .int .i64 E]) := X0
  have XC : Hid (∀ W, Below w0.heap.size w0 W → W.cell? ⟨w.heap.size, 0, none⟩ = some (.slice fa nf fc) ∧ W.cell? ⟨w.heap.size, 1, none⟩ = some (.slice da nd dc) ∧ W.cell? ⟨w.heap.size, 2, none⟩ = some (.int .i64 E)) := fun W hW => ⟨cell_any (X0'.out.1 0 _ rfl) hW, cell_any (X0'.out.1 1 _ rfl) hW, cell_any (X0'.out.1 2 _ rfl) hW⟩
  obtain ⟨o0, o1, o2⟩ := XC.out w0 (Below.refl _ _)
  clear X0 UP
  go_upto_region 2 with (go_at_call 18; refine (AL.out _ U0.out).mono ?_; rintro e wA ⟨⟨ga, rfl, ga1, ga2, gax⟩, hBA⟩)
  have BA : Hid (Below w0.heap.size w0 wA) := hBA
  have NA : Hid (IsNums wA (.slice (some ⟨ga, 0, none⟩) nf nf) (iotaZ nf)) := by
    have hh := nums_at (l := iotaZ nf) gax (by rw [iota_len]; unfold maxLen; omega)
    rw [iota_len] at hh
    exact hh
  clear hBA gax ga1 ga2 o0 o1 o2
  go_wp2_with (first
    | (go_at_call 9; refine (FI.out _ _ (bnext U0.out (bnext BA.out hB1)) (NA.out.later hB1)).mono ?_; rintro e w2 ⟨⟨b1, rfl, hb1⟩, hB2⟩; have HM1 : Hid (b1 = true → MayB z ∧ RightP p ∧ (iotaZ nf).length ≤ 400) := hb1; clear hb1; obtain ⟨p0', p1', p2'⟩ := XC.out _ (bnext BA.out (bnext hB1 hB2)); cases b1)
    | (go_at_call 8; have q := U0; refine (AW.out _ (by first | exact bnext U0.out BA.out | exact bnext (bnext U0.out (bnext BA.out hB1)) hB2)).mono ?_; first | (rintro e w3 ⟨rfl, hB3⟩; have qq := hB2) | (rintro e w1 ⟨rfl, hB1⟩; obtain ⟨p0, p1, p2⟩ := XC.out _ (bnext BA.out hB1)))
    | (go_at_call 10; refine (PL.out (HM1.out (by first | rfl | trivial)).1 _ _ (bnext (bnext U0.out (bnext BA.out hB1)) hB2) (NA.out.later (bnext hB1 hB2))).mono ?_; rintro e w4 ⟨hpl, hB4⟩; obtain ⟨xa, xn, xc, ya, yn, yc, xw, xb, xr, er, rfl, her, hip⟩ := hpl.open; have HP : Hid (er = (planZ z (iotaZ nf)).1 ∧ IsPlan _ w4 (.agg #[.slice xa xn xc, .slice ya yn yc, .int .i64 xw, .int .i64 xb, .int .i64 xr]) (planZ z (iotaZ nf)).2) := ⟨her, hip⟩; clear her hip hpl; by_cases her0 : er = 0))
  · go_ret
    exact ⟨rfl, bnext (bnext (bnext U0.out (bnext BA.out hB1)) hB2) hB3⟩
  · subst her0
    obtain ⟨x, ex⟩ : ∃ x, planZ z (iotaZ nf) = (0, x) := ⟨(planZ z (iotaZ nf)).2, Prod.ext HP.out.1.symm rfl⟩
    have HX4 : Hid (IsPlan w2.heap.size w4 (.agg #[.slice xa xn xc, .slice ya yn yc, .int .i64 xw, .int .i64 xb, .int .i64 xr]) x) := by have h := HP.out.2; rw [ex] at h; exact h
    have EX : Hid (planZ z (iotaZ nf) = (0, x) ∧ MayB z ∧ RightP p) := ⟨ex, (HM1.out (by first | rfl | trivial)).1, (HM1.out (by first | rfl | trivial)).2.1⟩
    clear ex HP HM1
    have X5 := XAt.new w4 #[.slice xa xn xc, .slice ya yn yc, .int .i64 xw, .int .i64 xb, .int .i64 xr] 30
    have B5 := keep_alloc8 (Below.refl w4.heap.size w4) (.cells #[.slice xa xn xc, .slice ya yn yc, .int .i64 xw, .int .i64 xb, .int .i64 xr] 30)
    go_upto_region 7 with fail
    generalize w4.alloc (.cells #[.slice xa xn xc, .slice ya yn yc, .int .i64 xw, .int .i64 xb, .int .i64 xr] 30) = w5 at X5 B5 ⊢
    have H05 : Hid (Below w0.heap.size w0 w5) := bnext BA.out (bnext hB1 (bnext hB2 (bnext hB4 B5)))
    have HX5 : Hid (IsPlan w2.heap.size w5 (.agg #[.slice xa xn xc, .slice ya yn yc, .int .i64 xw, .int .i64 xb, .int .i64 xr]) x) := HX4.out.later B5
    have XX : Hid (XAt w5 w4.heap.size [.slice xa xn xc, .slice ya yn yc, .int .i64 xw, .int .i64 xb, .int .i64 xr]) := X5
    obtain ⟨Z, eZ⟩ : ∃ Z, w4.heap.size = Z := ⟨_, rfl⟩
    rw [eZ] at XX ⊢
    have U5 : Hid (Below w.heap.size w w5) := bnext U0.out H05.out
    have CC2 : Hid (PlanOk nf nd x ∧ _) := C2.out w5 _ x _ U5.out EX.out.2.1 EX.out.2.2 EX.out.1 HX5.out
    have KS : Hid (∀ W, Below w5.heap.size w5 W → W.cell? ⟨w.heap.size, 0, none⟩ = some (.slice fa nf fc) ∧ W.cell? ⟨w.heap.size, 1, none⟩ = some (.slice da nd dc) ∧ W.cell? ⟨w.heap.size, 2, none⟩ = some (.int .i64 E) ∧
        W.cell? ⟨Z, 0, none⟩ = some (.slice xa xn xc) ∧ W.cell? ⟨Z, 1, none⟩ = some (.slice ya yn yc) ∧ W.cell? ⟨Z, 2, none⟩ = some (.int .i64 xw) ∧ W.cell? ⟨Z, 3, none⟩ = some (.int .i64 xb) ∧ W.cell? ⟨Z, 4, none⟩ = some (.int .i64 xr)) := fun W hW => by
      obtain ⟨c0, c1, c2⟩ := XC.out W (bnext H05.out hW)
      exact ⟨c0, c1, c2, cell_any (XX.out.1 0 _ rfl) hW, cell_any (XX.out.1 1 _ rfl) hW, cell_any (XX.out.1 2 _ rfl) hW, cell_any (XX.out.1 3 _ rfl) hW, cell_any (XX.out.1 4 _ rfl) hW⟩
    obtain ⟨i0, hi, hz0, hz1, hz2⟩ := info_parts infoBo
    clear X5 B5 p0 p1 p2 p0' p1' p2' HX4 eZ hB1 hB2 hB4 NA C2 AL FI PL AW
    go_loopw [6] (fun i wr => ∃ k : Nat, k ≤ nd ∧ i = .int .i64 k ∧ Below w5.heap.size w5 wr) (fun i _ => nd - (intOf i).toNat)
    case atStart => exact ⟨0, Nat.zero_le _, rfl, Below.refl _ _⟩
    case round =>
      obtain ⟨k, hk, rfl, hb⟩ := hrel
      have HB : Hid (Below w5.heap.size w5 wr) := hb
      clear hb
      have HW : Hid (Below w.heap.size w wr) := bnext U0.out (bnext H05.out HB.out)
      obtain ⟨k0, k1, k2, k3, k4, k5, k6, k7⟩ := KS.out wr HB.out
      by_cases hlt : k < nd
      · have hlt' : (k : Int) < nd := by omega
        obtain ⟨D, hD, hdo, s1, s2, s3, hc1⟩ := CC2.out.2 k hlt
        obtain ⟨b, off, rfl, ca, m, cc, ra, rn, rc, g3, g4, gb, gm, gr, grn, grm⟩ := DX.out k D hD
        have HC1 : Hid (∀ W', Below w5.heap.size w5 W' → Calls Tryd.prog 14 #[.agg #[.slice fa nf fc, .slice (some ⟨b, off, none⟩) nd dc, .int .i64 E], .agg #[.slice xa xn xc, .slice ya yn yc, .int .i64 xw, .int .i64 xb, .int .i64 xr], .int .i64 k] W' fun e w' => RowPost .u8 W'.heap.size (dataZ x D) e w' ∧ Below W'.heap.size W' w') := hc1
        have HD : Hid (p.datas[k]? = some D ∧ DtOk nd D ∧ 1 ≤ D.size ∧ D.size ≤ 4096 ∧ (D.bytes.length : Int) ≤ D.size ∧ PlanOk nf nd x) := ⟨hD, hdo, s1, s2, s3, CC2.out.1⟩
        have HFC : Hid (w.cell? ⟨b, off + k * 5 + 3, none⟩ = some (.slice ca m cc) ∧ w.cell? ⟨b, off + k * 5 + 4, none⟩ = some (.slice ra rn rc) ∧ IsBytes Any8 w (.slice ca m cc) D.bytes ∧ D.bytes.length = m ∧ IsPRels Any8 w (.slice ra rn rc) D.rels ∧ D.rels.length = rn ∧ rn ≤ maxLen) := ⟨g3, g4, gb, gm, gr, grn, grm⟩
        have hm4 : m ≤ 4096 := by omega
        have rn' := may_len grm
        clear hD hdo s1 s2 s3 hc1 g3 g4 gb gm gr grn grm
        go_upto_region 11 with (go_at_call 14; refine (HC1.out _ HB.out).mono ?_; rintro e w6 ⟨⟨hz, rfl⟩ | ⟨L, vL, hz, rfl, hr6⟩, hb6⟩)
        · have H8 : Hid (Below w5.heap.size w5 w6) := bnext HB.out hb6
          clear k0 k1 k2 k3 k4 k5 k6 k7 hb6
          go_wp2
          go_roundw
          case rel => exact ⟨k + 1, by omega, by go_num, H8.out⟩
          case measure => simp [intOf]; omega
        · have HZ : Hid (dataZ x D = some L) := hz
          have HLN : Hid (L.length = D.size.toNat) := by rw [(datsZ_keeps hz).1]; exact fill_len HD.out.2.2.2.2.1
          obtain ⟨n, en⟩ : ∃ n, L.length = n := ⟨_, rfl⟩
          obtain ⟨la, lc, rfl, hh6, hl6⟩ := hr6
          rcases hl6 with rfl | ⟨g, rfl, g1, g2, gx⟩
          · have h1 := HLN.out
            have h2 := HD.out.2.2.1
            simp at h1
            omega
          have HG : Hid (wr.heap.size ≤ g ∧ g < w6.heap.size ∧ XAt w6 g (L.map fun x => .int .u8 x) ∧ n ≤ lc ∧ lc ≤ maxLen ∧ L.length = n ∧ n = D.size.toNat) := ⟨g1, g2, gx, by rw [← en]; exact hh6.1.1, hh6.2, en, by rw [← en]; exact HLN.out⟩
          have hn4 : n ≤ 4096 := by have := HD.out.2.2.2.1; have := HG.out.2.2.2.2.2.2; omega
          have hn1 : 1 ≤ n := by have := HD.out.2.2.1; have := HG.out.2.2.2.2.2.2; omega
          have B6 : Hid (Below w5.heap.size w5 w6) := bnext HB.out hb6
          rw [en]
          clear k0 k1 k2 k3 k4 k5 k6 k7 hb6 hz hh6 g1 g2 gx en
          go_upto_region 13 with (at_make; refine wpList_make_full _ rfl _ _ 53 rfl _ 4 i0 (.bool false) 1 Tryd.underlying53 hi hz0 hz1 .i64 .i64 _ _ n rfl rfl rfl rfl (by rw [hz2]; omega) (by unfold maxLen; omega) (Nat.le_refl _) ?_; intro w7 own7 gr7)
          have B7 : Hid (Below w6.heap.size w6 w7) := grew_below gr7
          have G7 : Hid (w6.heap.size < w7.heap.size ∧ XAt w7 w6.heap.size (bools (List.replicate n false))) := by
            have h := own_heap own7; rw [zeros_bools] at h; exact ⟨lt_heap h.2, xat_heap h.2⟩
          clear own7 gr7
          obtain ⟨t, et⟩ : ∃ t, w6.heap.size = t := ⟨_, rfl⟩
          have HT6 : Hid (w6.heap.size = t) := et
          rw [et] at G7 B7 ⊢
          clear et
          have BY : Hid (Byt L) := by
            have h := dataZ_byt (x := x) HFC.out.2.2.1.2
            rw [HZ.out] at h
            exact h
          go_wp2
          go_loopw [10] (fun v wq => ∃ (q : Nat) (T : List Bool), q ≤ rn ∧ v = .int .i64 q ∧ T.length = n ∧ (∀ j r, j < q → D.rels[j]? = some r → ∀ i : Nat, r.at_ ≤ i → (i : Int) < r.at_ + 4 → T[i]? = some true) ∧ XAt wq t (bools T) ∧ Below t w6 wq ∧ t < wq.heap.size) (fun v _ => rn - (intOf v).toNat)
          case atStart => exact ⟨0, List.replicate n false, Nat.zero_le _, rfl, by simp, (fun j r hj => by omega), G7.out.2, B7.out, G7.out.1⟩
          case round =>
            obtain ⟨q, T, hq, rfl, hTl, hcov, hxt, hbt, hts⟩ := hrel
            have HQ : Hid (T.length = n ∧ (∀ j r, j < q → D.rels[j]? = some r → ∀ i : Nat, r.at_ ≤ i → (i : Int) < r.at_ + 4 → T[i]? = some true) ∧ XAt wr t (bools T) ∧ Below t w6 wr ∧ t < wr.heap.size) := ⟨hTl, hcov, hxt, hbt, hts⟩
            have HWQ : Hid (Below w5.heap.size w5 wr) := bnext B6.out (by rw [HT6.out]; exact hbt)
            have HW0 : Hid (Below w.heap.size w wr) := bnext U5.out HWQ.out
            clear hTl hcov hxt hbt hts
            obtain ⟨k0, k1, k2, k3, k4, k5, k6, k7⟩ := KS.out wr HWQ.out
            by_cases hqr : q < rn
            · have hqr' : (q : Int) < rn := by omega
              obtain ⟨ra', rc', era, -, -, rx⟩ := LstA.open HFC.out.2.2.2.2.1
              injection era with era1 era2 era3
              subst era1
              obtain ⟨qb, qo, r, rfl, -, hr, z0, z1, z2, z3⟩ := rx q (by rw [HFC.out.2.2.2.2.2.1]; exact hqr)
              have HRQ : Hid (D.rels[q]? = some r) := hr
              have hrd := HD.out.2.1.1 r (List.mem_of_getElem? hr)
              obtain ⟨at_, kd, tt, ad⟩ := r
              obtain ⟨-, d1, d2, d3, d4, d5, d6⟩ := hrd
              dsimp only at z0 z1 z2 z3 d1 d2 d3 d4 d5 d6
              obtain ⟨A, rfl⟩ : ∃ A : Nat, at_ = A := ⟨at_.toNat, by omega⟩
              obtain ⟨Y, rfl⟩ : ∃ Y : Nat, tt = Y := ⟨tt.toNat, by omega⟩
              have hA4 : A + 4 ≤ n := by have := HG.out.2.2.2.2.2.2; have := HD.out.2.2.1; omega
              obtain ⟨q0, q1, q2⟩ := HD.out.2.2.2.2.2.val (r := ⟨A, kd, Y, ad⟩) (by show (0 : Int) ≤ (Y : Int); omega) d4
              dsimp only at q0 q1 q2
              rw [Int.toNat_natCast] at q0
              have y0 := cell_any z0 HW0.out
              have y1 := cell_any z1 HW0.out
              have y2 := cell_any z2 HW0.out
              have y3 := cell_any z3 HW0.out
              have g4 := cell_any HFC.out.2.1 HW0.out
              obtain ⟨vc, vd, ev, hvc, hvd, -⟩ := HX5.out
              simp only [Value.agg.injEq, Array.mk.injEq, List.cons.injEq] at ev
              obtain ⟨rfl, rfl, -⟩ := ev
              obtain ⟨qa, qc, eq_, qm, qx⟩ := nums_open hvd.isNums rfl
              injection eq_ with eq1 eq2 eq3
              subst eq1
              rcases qx with h | ⟨yb, yo, rfl, ycell⟩
              · have := get_lt q0; omega
              have u2 := ycell _ _ q0
              have v2 : (Y : Int) < yn := by have := get_lt q0; omega
              have SUM := dataZ_sum HD.out.2.1 HD.out.2.2.2.2.1 HZ.out HRQ.out (by unfold valZ; dsimp only; omega)
              unfold valZ at SUM
              dsimp only at SUM
              rw [Int.toNat_natCast] at SUM
              have hw := addr_sum (P := plc x.data (Y : Int)) (ad := ad) SUM.1 (by omega)
              obtain ⟨P, eP⟩ : ∃ P, plc x.data (Y : Int) = P := ⟨_, rfl⟩
              obtain ⟨AD, eAD⟩ : ∃ AD, IntKind.u32.wrap ad = AD := ⟨_, rfl⟩
              rw [eP] at q1 q2 u2 SUM hw
              rw [eAD] at hw
              obtain ⟨V, eV⟩ : ∃ V, 65536 + P + ad = V := ⟨_, rfl⟩
              rw [eV] at SUM hw
              have HG1 : Hid (∀ W, Below w6.heap.size w6 W → ∀ cap, Calls Tryd.prog 19 #[.slice (some ⟨g, A, none⟩) (n - A) cap] W fun e w' => e = .returned (.int .u32 V) ∧ Below W.heap.size W w') := fun W hW cap => by
                have h := rget_any W g A (n - A) cap (fun i => L.getD (A + i) 0) (by omega) (fun i hi _ => by
                  have hl : A + i < L.length := by have := HG.out.2.2.2.2.2.1; omega
                  obtain ⟨u, hu⟩ := get_some hl
                  rw [getD_of hu]
                  exact cell_any (xat_num HG.out.2.2.1 hu) hW) (fun i => by
                  by_cases hl : A + i < L.length
                  · obtain ⟨u, hu⟩ := get_some hl
                    rw [getD_of hu]
                    exact BY.out u (List.mem_of_getElem? hu)
                  · rw [List.getD_eq_getElem?_getD, List.getElem?_eq_none (by omega)]
                    exact ⟨by decide, by decide⟩)
                rw [Nat.min_eq_right (by omega), SUM.2] at h
                exact h
              have HA1 : Hid (∀ W, Calls Tryd.prog 20 #[.int .i64 P] W fun e w' => e = .returned (.int .u32 (65536 + P)) ∧ w' = W) := fun W => address_any P W q1 q2
              have hne : (V != V) = false := by simp
              have XR := XAt.new wr #[.int .i64 A, .int .i64 kd, .int .i64 Y, .int .i64 ad] 46
              have HR8 := keep_alloc8 (Below.refl wr.heap.size wr) (.cells #[.int .i64 A, .int .i64 kd, .int .i64 Y, .int .i64 ad] 46)
              go_upto_region 17 with fail
              generalize wr.alloc (.cells #[.int .i64 A, .int .i64 kd, .int .i64 Y, .int .i64 ad] 46) = w8 at XR HR8 ⊢
              have X8 : Hid (XAt w8 wr.heap.size [.int .i64 A, .int .i64 kd, .int .i64 Y, .int .i64 ad]) := XR
              have H8 : Hid (Below wr.heap.size wr w8) := HR8
              have HT8 : Hid (XAt w8 t (bools T) ∧ t < wr.heap.size ∧ wr.heap.size < w8.heap.size) := ⟨HQ.out.2.2.1.later HQ.out.2.2.2.2 HR8, HQ.out.2.2.2.2, XR.lt (by simp)⟩
              have HY : Hid (w5.cell? ⟨yb, yo + Y, none⟩ = some (.int .i64 P)) := u2
              have HW8 : Hid (Below w5.heap.size w5 w8) := bnext HWQ.out HR8
              have HB68 : Hid (Below w6.heap.size w6 w8) := bnext (by rw [HT6.out]; exact HQ.out.2.2.2.1) HR8
              obtain ⟨C, eC⟩ : ∃ C, wr.heap.size = C := ⟨_, rfl⟩
              rw [eC] at X8 HT8 ⊢
              clear XR HR8 eC k0 k1 k2 k3 k4 k5 k6 k7 y0 y1 y2 y3 g4 u2 z0 z1 z2 z3 rx ycell hvc hvd eq2 eq3 era2 era3 qm q0 hr SUM eV eP
              have KS8 : Hid (∀ W, Below w8.heap.size w8 W → W.cell? ⟨C, 0, none⟩ = some (.int .i64 A) ∧ W.cell? ⟨C, 2, none⟩ = some (.int .i64 Y) ∧ W.cell? ⟨C, 3, none⟩ = some (.int .i64 ad) ∧ W.cell? ⟨Z, 1, none⟩ = some (.slice (some ⟨yb, yo, none⟩) yn yc) ∧ W.cell? ⟨yb, yo + Y, none⟩ = some (.int .i64 P)) := fun W hW =>
                ⟨cell_any (X8.out.1 0 _ rfl) hW, cell_any (X8.out.1 2 _ rfl) hW, cell_any (X8.out.1 3 _ rfl) hW, (KS.out W (bnext HW8.out hW)).2.2.2.2.1, cell_any HY.out (bnext HW8.out hW)⟩
              have HD8 : Hid (Below w6.heap.size w6 w8.drew) := bnext HB68.out (Below.refl w8.heap.size w8).drew
              have HGX : Hid (Calls Tryd.prog 19 #[.slice (if lc = A then some ⟨g, 0, none⟩ else some ⟨g, A, none⟩) (n - A) (lc - A)] w8.drew fun e w' => e = .returned (.int .u32 V) ∧ Below w8.drew.heap.size w8.drew w') := by
                rw [if_neg (by have := HG.out.2.2.2.1; omega)]
                exact HG1.out w8.drew HD8.out _
              have hA5 : (A : Int) ≤ n := by omega
              have hA6 : A ≤ n := by omega
              have hlc : n ≤ lc := HG.out.2.2.2.1
              have hlm : lc ≤ maxLen := HG.out.2.2.2.2.1
              have hlm' := may_len hlm
              go_region_held3 (fun W => W.cell? ⟨C, 0, none⟩ = some (.int .i64 A) ∧ W.cell? ⟨C, 2, none⟩ = some (.int .i64 Y) ∧ W.cell? ⟨C, 3, none⟩ = some (.int .i64 ad) ∧ W.cell? ⟨Z, 1, none⟩ = some (.slice (some ⟨yb, yo, none⟩) yn yc) ∧ W.cell? ⟨yb, yo + Y, none⟩ = some (.int .i64 P)) (first | exact KS8.out w8 (Below.refl _ _) | exact KS8.out w8.drew (Below.refl _ _).drew | exact KS8.out w9 hb9) (first | (go_at_call 19; refine HGX.out.mono ?_; rintro e w9 ⟨rfl, hb9'⟩; have hb9 : Below w8.heap.size w8 w9 := bnext (Below.refl w8.heap.size w8).drew hb9') | (go_at_call 20; refine (HA1.out _).mono ?_; rintro e w10 ⟨rfl, hw10⟩; subst w10))
              have HX9 : Hid (XAt w9 C [.int .i64 A, .int .i64 kd, .int .i64 Y, .int .i64 ad] ∧ XAt w9 t (bools T) ∧ t < w9.heap.size ∧ Below t w6 w9) := ⟨X8.out.later HT8.out.2.2 hb9, HT8.out.1.later (by have := HT8.out.2.1; have := HT8.out.2.2; omega) hb9, by have h1 := hb9.size; have h2 := HT8.out.2.1; have h3 := HT8.out.2.2; omega, by rw [← HT6.out]; exact bnext (bnext (by rw [HT6.out]; exact HQ.out.2.2.2.1) H8.out) hb9⟩
              have HtC : Hid (t ≠ C) := fun e => by have h := HT8.out.2.1; omega
              clear hb9 hb9'
              go_wp2
              go_loopw [12] (fun v wx => ∃ (i : Nat) (T' : List Bool), i ≤ 4 ∧ v = .int .i64 i ∧ T'.length = n ∧ (∀ j : Nat, T[j]? = some true → T'[j]? = some true) ∧ (∀ j : Nat, j < i → T'[A + j]? = some true) ∧ XAt wx t (bools T') ∧ XAt wx C [.int .i64 A, .int .i64 kd, .int .i64 Y, .int .i64 ad] ∧ Below t w6 wx ∧ t < wx.heap.size) (fun v _ => 4 - (intOf v).toNat)
              case atStart => exact ⟨0, T, by omega, rfl, HQ.out.1, (fun j h => h), (fun j h => by omega), HX9.out.2.1, HX9.out.1, HX9.out.2.2.2, HX9.out.2.2.1⟩
              case round =>
                obtain ⟨i, T', hi4, rfl, hl', hT1, hT2, hx', hc', hb', hs'⟩ := hrel
                have HJ : Hid (T'.length = n ∧ (∀ j : Nat, T[j]? = some true → T'[j]? = some true) ∧ (∀ j : Nat, j < i → T'[A + j]? = some true) ∧ XAt wr t (bools T') ∧ XAt wr C [.int .i64 A, .int .i64 kd, .int .i64 Y, .int .i64 ad] ∧ Below t w6 wr ∧ t < wr.heap.size) := ⟨hl', hT1, hT2, hx', hc', hb', hs'⟩
                clear hl' hT1 hT2 hx' hc' hb' hs'
                by_cases hi : i < 4
                · have hi' : (i : Int) < 4 := by omega
                  obtain ⟨s, es⟩ : ∃ s, A + i = s := ⟨_, rfl⟩
                  have s0 : (A : Int) + (i : Int) = (s : Int) := by omega
                  have s1 : (s : Int) < n := by omega
                  have s2 : s < n := by omega
                  obtain ⟨u, hu⟩ := get_some (l := T') (k := s) (by rw [HJ.out.1]; exact s2)
                  have c0 := HJ.out.2.2.2.2.1.1 0 _ rfl
                  have t0 := HJ.out.2.2.2.1.1 s _ (bools_get hu)
                  have t1 := HJ.out.2.2.2.1.2 s
                  have HS : Hid (A + i = s) := es
                  clear hu es
                  go_wp2
                  go_roundw
                  case rel => exact ⟨i + 1, T'.set s true, by omega, by go_num, by rw [List.length_set]; exact HJ.out.1, (fun j h => set_true (HJ.out.2.1 j h)), (fun j hj => by
                    rcases (by omega : j < i ∨ j = i) with h | rfl
                    · exact set_true (HJ.out.2.2.1 j h)
                    · rw [HS.out]; exact List.getElem?_set_self (by rw [HJ.out.1]; exact s2)), xbool_set HJ.out.2.2.2.1 (by rw [HJ.out.1]; exact s2) true, xat_other HJ.out.2.2.2.2.1 (fun e => HtC.out e.symm) _, HJ.out.2.2.2.2.2.1.setCell (Nat.le_refl _) _, by simpa using HJ.out.2.2.2.2.2.2⟩
                  case measure => simp [intOf]; omega
                · obtain rfl : i = 4 := by omega
                  go_wp2
                  go_roundw
                  case rel => exact ⟨q + 1, T', by omega, by go_num, HJ.out.1, (fun j r hj hr i' h1 h2 => by
                    rcases (by omega : j < q ∨ j = q) with h | rfl
                    · exact HJ.out.2.1 _ (HQ.out.2.1 j r h hr i' h1 h2)
                    · rw [HRQ.out] at hr
                      injection hr with hr
                      subst hr
                      dsimp only at h1 h2
                      have h3 := HJ.out.2.2.1 (i' - A) (by omega)
                      rwa [show A + (i' - A) = i' by omega] at h3), HJ.out.2.2.2.1, HJ.out.2.2.2.2.2.1, HJ.out.2.2.2.2.2.2⟩
                  case measure => simp [intOf]; omega
            · have hqe : q = rn := by omega
              subst hqe
              have g4 := cell_any HFC.out.2.1 HW0.out
              go_wp2
              clear k0 k1 k2 k3 k4 k5 k6 k7 g4
              go_loopw [13] (fun v wx => ∃ i : Nat, i ≤ n ∧ v = .int .i64 i ∧ Below wr.heap.size wr wx) (fun v _ => n - (intOf v).toNat)
              case atStart => exact ⟨0, Nat.zero_le _, rfl, Below.refl _ _⟩
              case round =>
                obtain ⟨i, hi, rfl, hb⟩ := hrel
                have HI5 : Hid (Below w5.heap.size w5 wr) := bnext HWQ.out hb
                have HI0 : Hid (Below w.heap.size w wr) := bnext HW0.out hb
                have HI : Hid (Below _ _ wr) := hb
                have HI6 : Hid (Below w6.heap.size w6 wr) := bnext (by rw [HT6.out]; exact HQ.out.2.2.2.1) hb
                clear hb
                obtain ⟨k0, k1, k2, k3, k4, k5, k6, k7⟩ := KS.out wr HI5.out
                by_cases hin : i < n
                · have hin' : (i : Int) < n := by omega
                  obtain ⟨u, hu⟩ := get_some (l := T) (k := i) (by rw [HQ.out.1]; exact hin)
                  obtain ⟨y, hy⟩ := get_some (l := L) (k := i) (by rw [HG.out.2.2.2.2.2.1]; exact hin)
                  have tc := cell_any (HQ.out.2.2.1.1 i _ (bools_get hu)) HI.out
                  have bc := cell_any (xat_num HG.out.2.2.1 hy) HI6.out
                  have g3 := cell_any HFC.out.1 HI0.out
                  have FG : Hid ((fillZ D)[i]? = some (if i < m then D.bytes.getD i 0 else 0)) := by
                    have h := fill_get (D := D) (j := i) (by have := HG.out.2.2.2.2.2.2; omega)
                    rw [HFC.out.2.2.2.1] at h
                    exact h
                  have HY : Hid (u = false → y = if i < m then D.bytes.getD i 0 else 0) := fun hf => by
                    subst hf
                    have h := dataZ_stay HD.out.2.1 HD.out.2.2.2.2.1 HZ.out (j := i) (fun r hr => by
                      obtain ⟨j, hj⟩ := List.mem_iff_getElem?.1 hr
                      have hjl := get_lt hj
                      rw [HFC.out.2.2.2.2.2.1] at hjl
                      rcases (by omega : (i : Int) < r.at_ ∨ r.at_ + 4 ≤ i ∨ (r.at_ ≤ i ∧ (i : Int) < r.at_ + 4)) with h1 | h1 | ⟨h1, h2⟩
                      · exact .inl h1
                      · exact .inr h1
                      · have h3 := HQ.out.2.1 j r hjl hj i h1 h2
                        rw [hu] at h3
                        cases h3)
                    rw [hy, FG.out] at h
                    injection h
                  clear hu hy
                  by_cases him : i < m
                  · have him' : (i : Int) < m := by omega
                    obtain ⟨x0, hx0⟩ := get_some (l := D.bytes) (k := i) (by rw [HFC.out.2.2.2.1]; exact him)
                    obtain ⟨xb2, xo2, rfl, xc2⟩ := bytes_cell HFC.out.2.2.1 hx0
                    have xc3 := cell_any xc2 HI0.out
                    have HY2 : Hid (u = false → y = x0) := fun hf => by have h := HY.out hf; rw [if_pos him, getD_of hx0] at h; exact h
                    clear hx0 xc2
                    cases u
                    · obtain rfl := HY2.out rfl
                      have hne : (y != y) = false := by simp
                      go_wp2
                      go_roundw
                      case rel => exact ⟨i + 1, by omega, by go_num, HI.out⟩
                      case measure => simp [intOf]; omega
                    · go_wp2
                      go_roundw
                      case rel => exact ⟨i + 1, by omega, by go_num, HI.out⟩
                      case measure => simp [intOf]; omega
                  · have him' : ¬ ((i : Int) < m) := by omega
                    cases u
                    · have hy0 : y = 0 := by have h := HY.out rfl; rw [if_neg him] at h; exact h
                      subst hy0
                      go_wp2
                      go_roundw
                      case rel => exact ⟨i + 1, by omega, by go_num, HI.out⟩
                      case measure => simp [intOf]; omega
                    · go_wp2
                      go_roundw
                      case rel => exact ⟨i + 1, by omega, by go_num, HI.out⟩
                      case measure => simp [intOf]; omega
                · have hie : i = n := by omega
                  subst hie
                  go_wp2
                  go_roundw
                  case rel => exact ⟨k + 1, by omega, by go_num, HI5.out⟩
                  case measure => simp [intOf]; omega
      · have hkn : k = nd := by omega
        subst k
        go_wp2
        go_ret
        exact ⟨rfl, HW.out⟩
  · go_wp2
    go_ret
    exact ⟨rfl, bnext U0.out (bnext BA.out (bnext hB1 (bnext hB2 (keep_alloc8 hB4 _))))⟩
end Go.Proofs.YtombfnnpdamlgaaDoor
