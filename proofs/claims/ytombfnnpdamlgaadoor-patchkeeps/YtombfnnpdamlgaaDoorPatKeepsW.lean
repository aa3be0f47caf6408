/- PatchKeeps, walked. -/
import Derived.Test.YtombfnnpdamlgaaDoorPatPlan
import Derived.Test.YtombfnnpdamlgaaDoorPatFrame
import Derived.Test.YtombfnnpdamlgaaDoorObjSame
import Derived.Test.YtombfnnpdamlgaaDoorObjSame2
namespace Go.Proofs.YtombfnnpdamlgaaDoor
open Go.ChangeShapes Go.WideShapes Go.ChangeAt Go.RowKit
set_option linter.unusedVariables false
set_option linter.unusedSimpArgs false
section
set_option maxRecDepth 100000
/-- A program that came in, with its list of functions' bound. -/
theorem open_progS {H : Type} {enc : TypeId × Value → H} {W : World} {r : Reach} {b0 base : Nat} {sp : Nat → Bool} {held : Bool} {v : Value} {d : DataW H} {p : List MemPlace}
    (hv : Value.okWide Tryd.prog W r b0 25 v) (h : DataW.Trod enc Tryd.prog W base sp held 25 v d p) : ∃ o : ProgM, IsProg Any8 W v o ∧ ((DataW.weightsEach Tryd.prog [25] [d]).all (fun x => decide (x ≤ reachBytes)) = true → o.funcs.length * 72 ≤ 140737488351232) := by
  obtain ⟨cs, rfl, hsz⟩ := Go.WideShapes.okWide_struct Tryd.underlying25 hv
  obtain ⟨fuel, hf⟩ := h
  obtain ⟨xs, n, _, hx, hl, hlen, hfs⟩ := DataW.trod_struct Tryd.underlying25 hf
  have hc : Tryd.prog.cellsOf 25 = 3 := by kernel_rfl
  rw [hc] at hsz
  have hl2 : xs.length = 3 := hlen
  obtain ⟨l⟩ := cs
  have hl' : l.length = 3 := hsz
  match xs, hl2, l, hl' with
  | [z0, z1, z2], _, [c0, c1, c2], _ =>
    have h0 : DataW.trod enc Tryd.prog W base sp held n 22 (List.take (Tryd.prog.cellsOf 22) [c0, c1, c2]) = some z0 := hfs 0 _ rfl
    have h1 : DataW.trod enc Tryd.prog W base sp held n 23 (List.take (Tryd.prog.cellsOf 23) [c1, c2]) = some z1 := hfs 1 _ rfl
    have h2 : DataW.trod enc Tryd.prog W base sp held n 3 (List.take (Tryd.prog.cellsOf 3) [c2]) = some z2 := hfs 2 _ rfl
    rw [k_pfs] at h0
    rw [k_pds] at h1
    rw [k_int] at h2
    obtain ⟨v0, l0, e0, q0⟩ := open_pfs h0
    obtain ⟨v1, l1, e1, q1⟩ := open_pds h1
    obtain ⟨x2, e2, _, _⟩ := DataW.trod_int Tryd.underlying3 h2
    simp at e0 e1 e2
    subst e0 e1 e2
    refine ⟨⟨l0, l1, x2⟩, ⟨_, _, rfl, q0, q1⟩, fun hw => ?_⟩
    show l0.length * 72 ≤ 140737488351232
    rcases DataW.trod_slice Tryd.underlying22 h0 with ⟨hcs, _⟩ | ⟨a', len', cap', elems, rest, n', _, hcs, hz, _, _, _, hlen', _, _, _⟩
    · obtain ⟨a, c, e, -⟩ := q0
      simp at hcs
      rw [hcs] at e
      injection e with e1 e2 e3
      omega
    · obtain ⟨a, c, e, -⟩ := q0
      simp at hcs
      rw [hcs] at e
      injection e with e1 e2 e3
      have hd : d = .agg [z0.1, z1.1, z2.1] := by injection hx
      have hb : Tryd.prog.bytesOf 44 = 72 := by kernel_rfl
      rw [hd, hz] at hw
      simp only [DataW.weightsEach, DataW.weights, Tryd.underlying25, Tryd.underlying22, List.map_cons, List.map_nil, List.cons_append, List.all_cons, Bool.and_eq_true, decide_eq_true_eq, hb, List.length_map] at hw
      have h1 := hw.1
      unfold reachBytes at h1
      omega
end
set_option maxRecDepth 100000 in
set_option maxHeartbeats 4000000 in
theorem all_big {w : World} {v : Value} {p : ProgZ} (h : IsP w v p) (hm : p.codes.length * 72 ≤ 140737488351232) :
    Calls Tryd.prog 18 #[v] w fun e w' => (∃ g, e = .returned (.slice (some ⟨g, 0, none⟩) p.codes.length p.codes.length) ∧ w.heap.size ≤ g ∧ g < w'.heap.size ∧ XAt w' g (nums (iotaZ p.codes.length))) ∧ Below w.heap.size w w' := by
  obtain ⟨vf, vd, rfl, hf, hd⟩ := h
  obtain ⟨fa, fc, rfl, -, -, -⟩ := LstA.open hf
  obtain ⟨da, dc, rfl, -, -, -⟩ := LstA.open hd
  obtain ⟨F, eF⟩ : ∃ F, p.codes.length = F := ⟨_, rfl⟩
  obtain ⟨D, eD⟩ : ∃ D, p.datas.length = D := ⟨_, rfl⟩
  obtain ⟨E, eE⟩ : ∃ E, p.entry = E := ⟨_, rfl⟩
  rw [eF] at hm ⊢
  rw [eD, eE]
  clear hf hd eF eD eE
  obtain ⟨i0, hi, hz0, hz1, hz2⟩ := info_parts intI
  have hF' : (F : Int) ≤ 1954687338213 := by omega
  obtain ⟨W0, eW0⟩ : ∃ W0, w.alloc (.cells #[.slice fa F fc, .slice da D dc, .int .i64 E] 25) = W0 := ⟨_, rfl⟩
  have UP : Hid (Below w.heap.size w W0) := by rw [← eW0]; exact keep_alloc8 (Below.refl _ _) _
  have XA : Hid (XAt W0 w.heap.size [.slice fa F fc, .slice da D dc, .int .i64 E]) := by rw [← eW0]; exact XAt.new w _ _
  have ha : Hid (w.heap.size < W0.heap.size) := XA.out.lt (by simp)
  have p0 := XA.out.1 0 _ rfl
  go_enter Tryd.func18, Tryd.ntmps18
  go_upto_region 1 with fail
  try rw [eW0]
  clear eW0
  go_upto_region 2 with (at_make; refine wpList_make_full _ rfl _ _ 26 rfl _ 3 i0 (.int .i64 0) 1 Tryd.underlying26 hi hz0 hz1 .i64 .i64 _ _ F rfl rfl rfl rfl (by rw [hz2]; omega) (by unfold maxLen; omega) (Nat.le_refl _) ?_; intro w2 own2 gr2)
  have B2 : Hid (Below w.heap.size w w2) := bnext UP.out (grew_below gr2)
  have G2 : Hid (W0.heap.size < w2.heap.size ∧ XAt w2 W0.heap.size (nums (List.replicate F 0))) := by
    have h := own_heap own2; rw [zeros_nums] at h; exact ⟨lt_heap h.2, xat_heap h.2⟩
  clear own2 gr2 p0
  obtain ⟨g, eg⟩ : ∃ g, W0.heap.size = g := ⟨_, rfl⟩
  rw [eg] at ha G2 ⊢
  clear eg XA UP
  go_wp2
  go_loopw [11] (fun i wr => ∃ k : Nat, ∃ L : List Int, k ≤ F ∧ i = .int .i64 k ∧ L.length = F ∧ (∀ j, j < k → L[j]? = some (j : Int)) ∧ XAt wr g (nums L) ∧ Below w.heap.size w wr ∧ g < wr.heap.size) (fun i _ => F - (intOf i).toNat)
  case atStart => exact ⟨0, List.replicate F 0, Nat.zero_le _, rfl, by simp, (fun j hj => by omega), G2.out.2, B2.out, G2.out.1⟩
  case round =>
    obtain ⟨k, L, hk, rfl, hl, hj, hx, hb, hs⟩ := hrel
    have HL : Hid (L.length = F ∧ (∀ j, j < k → L[j]? = some (j : Int)) ∧ XAt wr g (nums L) ∧ Below w.heap.size w wr ∧ g < wr.heap.size) := ⟨hl, hj, hx, hb, hs⟩
    clear hl hj hx hb hs
    by_cases hlt : k < F
    · have hlt' : (k : Int) < F := by omega
      obtain ⟨x, hx⟩ := get_some (l := L) (k := k) (by have := HL.out.1; omega)
      have g0 := HL.out.2.2.1.1 k _ (nums_get hx)
      have g1 := HL.out.2.2.1.2 k
      clear hx
      go_upto_region 6 with fail
      have X4 : Hid (XAt (wr.setCell ⟨g, k, none⟩ (.int .i64 k)) g (nums (L.set k k))) := xnum_set HL.out.2.2.1 (by have := HL.out.1; omega) _
      have B4 : Hid (Below w.heap.size w (wr.setCell ⟨g, k, none⟩ (.int .i64 k))) := HL.out.2.2.2.1.setCell (by show w.heap.size ≤ g; have := ha.out; omega) _
      have S4 : Hid (g < (wr.setCell ⟨g, k, none⟩ (.int .i64 k)).heap.size) := by have := HL.out.2.2.2.2; simpa [Hid] using this
      generalize (wr.setCell ⟨g, k, none⟩ (.int .i64 k)) = w4 at X4 B4 S4 ⊢
      go_wp2
      go_roundw
      case rel => exact ⟨k + 1, L.set k k, by omega, by go_num, by rw [List.length_set]; exact HL.out.1, (fun j hj => by
        by_cases e : k = j
        · subst e; exact List.getElem?_set_self (by have := HL.out.1; omega)
        · rw [List.getElem?_set_ne e]; exact HL.out.2.1 j (by omega)), X4.out, B4.out, S4.out⟩
      case measure => simp [intOf]; omega
    · obtain rfl : k = F := by omega
      go_wp2
      go_ret
      exact ⟨⟨g, rfl, by have := ha.out; omega, HL.out.2.2.2.2, by rw [← iota_of HL.out.1 HL.out.2.1]; exact HL.out.2.2.1⟩, HL.out.2.2.2.1⟩
set_option maxRecDepth 100000 in
set_option maxHeartbeats 800000 in
theorem pkeeps_walk (w : World) (v : Value) (p : ProgM) (h : IsProg Any8 w v p) (hF : p.funcs.length * 72 ≤ 140737488351232) (hT : Tab w) :
    Calls Tryd.prog 7 #[v] w fun e w' => e = .returned (.bool true) ∧ Below w.heap.size w w' := by
  obtain ⟨z, hz, ho⟩ := h.place
  have hnf := ho.nf
  have hnd := ho.2.2.1
  have AW : Hid (∀ W, Below w.heap.size w W → Calls Tryd.prog 8 #[] W fun e w' => e = .returned (.bool true) ∧ Below W.heap.size W w') := fun W hW => awake13 W (hT.later hW)
  have AL : Hid (∀ W, Below w.heap.size w W → Calls Tryd.prog 18 #[v] W fun e w' => (∃ g, e = .returned (.slice (some ⟨g, 0, none⟩) z.codes.length z.codes.length) ∧ W.heap.size ≤ g ∧ g < w'.heap.size ∧ XAt w' g (nums (iotaZ z.codes.length))) ∧ Below W.heap.size W w') := fun W hW => all_big (hz.later hW) (by rw [hnf]; exact hF)
  have FI : Hid (∀ W vo, Below w.heap.size w W → IsNums W vo (iotaZ z.codes.length) → Calls Tryd.prog 9 #[v, vo] W fun e w' => OnlyIf e (MayB z ∧ RightP p ∧ (iotaZ z.codes.length).length ≤ 400) ∧ Below W.heap.size W w') := fun W vo hW hn => fine_any (h.later hW) (hz.later hW) ho hn
  have PL : Hid (MayB z → ∀ W vo, Below w.heap.size w W → IsNums W vo (iotaZ z.codes.length) → Calls Tryd.prog 10 #[v, vo] W fun e w' => PlanPost W.heap.size (planZ z (iotaZ z.codes.length)) e w' ∧ Below W.heap.size W w') := fun hm W vo hW hn => plan_any (hz.later hW) hn hm.may (by rw [iota_len]; have := hm.1; omega)
  have C1 : Hid (∀ W vx x base, Below w.heap.size w W → MayB z → RightP p → planZ z (iotaZ z.codes.length) = (0, x) → IsPlan base W vx x → ∀ k : Nat, k < z.codes.length → ∃ (L : List Int) (e0 : Int), Wrd L ∧
      (∀ W', Below W.heap.size W W' → Calls Tryd.prog 11 #[v, vx, .int .i64 k] W' fun e w' => ∃ a c, e = .returned (.tuple #[.slice a L.length c, .int .i64 e0]) ∧ RowU .u32 W'.heap.size w' (.slice a L.length c) L ∧ Below W'.heap.size W' w')) := fun W vx x base hW hm hr hp hx k hk => by
    obtain ⟨hok, hord⟩ := plan_good hm ho hp
    obtain ⟨f, F, c, h1, h2, h3, h4⟩ := hord k (by rw [iota_len]; exact hk)
    rw [iota_get hk] at h1
    have hkf : k = f := by injection h1 with h1; omega
    subst hkf
    have hl := hm.code ho F (List.mem_of_getElem? h2)
    refine ⟨(codeZ x c F).getD [], if codeZ x c F = none then 7 else 0, codeZ_wrd (h.wrd.1 F (List.mem_of_getElem? h2)), fun W' hW' => ?_⟩
    refine (pcode_any (h.later (bnext hW hW')) (hx.later hW') (hT.later (bnext hW hW')) hr hok k h2 h3 h4 hl).mono ?_
    rintro e w' ⟨hrp, hb⟩
    obtain ⟨a, c', he, hr⟩ := hrp.open
    exact ⟨a, c', he, hr, hb⟩
  have C2 : Hid (∀ W vx x base, Below w.heap.size w W → MayB z → RightP p → planZ z (iotaZ z.codes.length) = (0, x) → IsPlan base W vx x → ∀ k : Nat, k < z.datas.length → ∃ (L : List Int) (e0 : Int), Byt L ∧
      (∀ W', Below W.heap.size W W' → Calls Tryd.prog 14 #[v, vx, .int .i64 k] W' fun e w' => ∃ a c, e = .returned (.tuple #[.slice a L.length c, .int .i64 e0]) ∧ RowU .u8 W'.heap.size w' (.slice a L.length c) L ∧ Below W'.heap.size W' w')) := fun W vx x base hW hm hr hp hx k hk => by
    obtain ⟨hok, -⟩ := plan_good hm ho hp
    obtain ⟨D, hD⟩ := get_some (l := p.datas) (k := k) (by rw [← ho.2.2.1]; exact hk)
    obtain ⟨s1, s2, s3⟩ := hm.size ho D (List.mem_of_getElem? hD)
    refine ⟨(dataZ x D).getD [], if dataZ x D = none then 7 else 0, dataZ_byt (h.wrd.2 D (List.mem_of_getElem? hD)), fun W' hW' => ?_⟩
    refine (pdata_any (h.later (bnext hW hW')) (hx.later hW') hr hok k hD s1 s2 s3).mono ?_
    rintro e w' ⟨hrp, hb⟩
    obtain ⟨a, c', he, hr⟩ := hrp.open
    exact ⟨a, c', he, hr, hb⟩
  have HMC : Hid (MayB z → (∀ F ∈ p.funcs, F.code.length ≤ 70000) ∧ ∀ D ∈ p.datas, D.bytes.length ≤ 4096) := fun hm => ⟨hm.code ho, fun D hD => by have := hm.size ho D hD; omega⟩
  have HWRD := h.wrd
  obtain ⟨vf, vd, rfl, hf, hd⟩ := h
  obtain ⟨fa, fc, rfl, fm, -, fx⟩ := LstA.open hf
  obtain ⟨da, dc, rfl, dm, -, dx⟩ := LstA.open hd
  have fm' := may_len fm
  have dm' := may_len dm
  obtain ⟨nf, enf⟩ : ∃ n, p.funcs.length = n := ⟨_, rfl⟩
  obtain ⟨nd, endd⟩ : ∃ n, p.datas.length = n := ⟨_, rfl⟩
  obtain ⟨E, eE⟩ : ∃ n, p.entry = n := ⟨_, rfl⟩
  have FX0 : Hid (MayB z → ∀ k, k < nf → ∃ b off F, fa = some ⟨b, off, none⟩ ∧ Any8 b ∧ p.funcs[k]? = some F ∧ ∃ ca m cc, w.cell? ⟨b, off + k * 5 + 3, none⟩ = some (.slice ca m cc) ∧ IsWords Any8 w (.slice ca m cc) F.code ∧ F.code.length = m ∧ m ≤ 70000 ∧ Wrd F.code) := fun hm k hk => by
    obtain ⟨b, off, F, e, hA, hF, vc, vr, -, -, -, f3, -, hw, -⟩ := fx k (by rw [enf]; exact hk)
    obtain ⟨a, c, rfl, -⟩ := words_form hw
    exact ⟨b, off, F, e, hA, hF, a, _, c, f3, hw, rfl, (HMC.out hm).1 F (List.mem_of_getElem? hF), hw.2⟩
  have DX0 : Hid (MayB z → ∀ k, k < nd → ∃ b off D, da = some ⟨b, off, none⟩ ∧ Any8 b ∧ p.datas[k]? = some D ∧ ∃ ca m cc, w.cell? ⟨b, off + k * 5 + 3, none⟩ = some (.slice ca m cc) ∧ IsBytes Any8 w (.slice ca m cc) D.bytes ∧ D.bytes.length = m ∧ m ≤ 4096 ∧ Byt D.bytes) := fun hm k hk => by
    obtain ⟨b, off, D, e, hA, hD, vc, vr, -, -, -, f3, -, hw, -⟩ := dx k (by rw [endd]; exact hk)
    obtain ⟨a, c, rfl, -⟩ := bytes_form hw
    exact ⟨b, off, D, e, hA, hD, a, _, c, f3, hw, rfl, (HMC.out hm).2 D (List.mem_of_getElem? hD), hw.2⟩
  rw [hnf] at AL FI PL C1
  rw [hnd] at C2
  rw [hnf] at C2
  rw [enf, endd, eE] at AL FI PL C1 C2 ⊢
  rw [enf] at fm'
  rw [endd] at dm'
  clear hz hf hd hT fx dx fm dm enf endd eE hF HWRD hnf hnd
  have X0 := XAt.new w #[.slice fa nf fc, .slice da nd dc, .int .i64 E] 25
  have UP := keep_alloc8 (Below.refl w.heap.size w) (.cells #[.slice fa nf fc, .slice da nd dc, .int .i64 E] 25)
  go_enter Tryd.func7, Tryd.ntmps7
  go_upto_region 1 with fail
  generalize w.alloc (.cells #[.slice fa nf fc, .slice da nd dc, .int .i64 E] 25) = w0 at X0 UP ⊢
  have U0 : Hid (Below w.heap.size w w0) := UP
  have X0' : Hid (XAt w0 w.heap.size [.slice fa nf fc, .slice da nd dc, .int .i64 E]) := X0
  have XC : Hid (∀ W, Below w0.heap.size w0 W → W.cell? ⟨w.heap.size, 0, none⟩ = some (.slice fa nf fc) ∧ W.cell? ⟨w.heap.size, 1, none⟩ = some (.slice da nd dc) ∧ W.cell? ⟨w.heap.size, 2, none⟩ = some (.int .i64 E)) := fun W hW => ⟨cell_any (X0'.out.1 0 _ rfl) hW, cell_any (X0'.out.1 1 _ rfl) hW, cell_any (X0'.out.1 2 _ rfl) hW⟩
  obtain ⟨o0, o1, o2⟩ := XC.out w0 (Below.refl _ _)
  clear X0 UP
  go_upto_region 2 with (go_at_call 18; refine (AL.out _ U0.out).mono ?_; rintro e wA ⟨⟨ga, rfl, ga1, ga2, gax⟩, hBA⟩)
  have BA : Hid (Below w0.heap.size w0 wA) := hBA
  have NA : Hid (IsNums wA (.slice (some ⟨ga, 0, none⟩) nf nf) (iotaZ nf)) := by
    have hh := nums_at (l := iotaZ nf) gax (by rw [iota_len]; unfold maxLen; omega)
    rw [iota_len] at hh
    exact hh
  clear hBA gax ga1 ga2 o0 o1 o2
  go_wp2_with (first
    | (go_at_call 9; refine (FI.out _ _ (bnext U0.out (bnext BA.out hB1)) (NA.out.later hB1)).mono ?_; rintro e w2 ⟨⟨b1, rfl, hb1⟩, hB2⟩; have HM1 : Hid (b1 = true → MayB z ∧ RightP p ∧ (iotaZ nf).length ≤ 400) := hb1; clear hb1; obtain ⟨p0', p1', p2'⟩ := XC.out _ (bnext BA.out (bnext hB1 hB2)); cases b1)
    | (go_at_call 8; have q := U0; refine (AW.out _ (by first | exact bnext U0.out BA.out | exact bnext (bnext U0.out (bnext BA.out hB1)) hB2)).mono ?_; first | (rintro e w3 ⟨rfl, hB3⟩; have qq := hB2) | (rintro e w1 ⟨rfl, hB1⟩; obtain ⟨p0, p1, p2⟩ := XC.out _ (bnext BA.out hB1)))
    | (go_at_call 10; refine (PL.out (HM1.out (by first | rfl | trivial)).1 _ _ (bnext (bnext U0.out (bnext BA.out hB1)) hB2) (NA.out.later (bnext hB1 hB2))).mono ?_; rintro e w4 ⟨hpl, hB4⟩; obtain ⟨xa, xn, xc, ya, yn, yc, xw, xb, xr, er, rfl, her, hip⟩ := hpl.open; have HP : Hid (er = (planZ z (iotaZ nf)).1 ∧ IsPlan _ w4 (.agg #[.slice xa xn xc, .slice ya yn yc, .int .i64 xw, .int .i64 xb, .int .i64 xr]) (planZ z (iotaZ nf)).2) := ⟨her, hip⟩; clear her hip hpl; by_cases her0 : er = 0))
  · go_ret
    exact ⟨rfl, bnext (bnext (bnext U0.out (bnext BA.out hB1)) hB2) hB3⟩
  · subst her0
    obtain ⟨x, ex⟩ : ∃ x, planZ z (iotaZ nf) = (0, x) := ⟨(planZ z (iotaZ nf)).2, Prod.ext HP.out.1.symm rfl⟩
    have HX4 : Hid (IsPlan w2.heap.size w4 (.agg #[.slice xa xn xc, .slice ya yn yc, .int .i64 xw, .int .i64 xb, .int .i64 xr]) x) := by have h := HP.out.2; rw [ex] at h; exact h
    have EX : Hid (planZ z (iotaZ nf) = (0, x) ∧ MayB z ∧ RightP p) := ⟨ex, (HM1.out (by first | rfl | trivial)).1, (HM1.out (by first | rfl | trivial)).2.1⟩
    have FX := FX0.out EX.out.2.1
    have DX := DX0.out EX.out.2.1
    replace FX : Hid _ := FX
    replace DX : Hid _ := DX
    clear ex HP HM1 FX0 DX0 HMC
    have X5 := XAt.new w4 #[.slice xa xn xc, .slice ya yn yc, .int .i64 xw, .int .i64 xb, .int .i64 xr] 30
    have B5 := keep_alloc8 (Below.refl w4.heap.size w4) (.cells #[.slice xa xn xc, .slice ya yn yc, .int .i64 xw, .int .i64 xb, .int .i64 xr] 30)
    go_upto_region 8 with fail
    generalize w4.alloc (.cells #[.slice xa xn xc, .slice ya yn yc, .int .i64 xw, .int .i64 xb, .int .i64 xr] 30) = w5 at X5 B5 ⊢
    have H05 : Hid (Below w0.heap.size w0 w5) := bnext BA.out (bnext hB1 (bnext hB2 (bnext hB4 B5)))
    have HX5 : Hid (IsPlan w2.heap.size w5 (.agg #[.slice xa xn xc, .slice ya yn yc, .int .i64 xw, .int .i64 xb, .int .i64 xr]) x) := HX4.out.later B5
    have XX : Hid (XAt w5 w4.heap.size [.slice xa xn xc, .slice ya yn yc, .int .i64 xw, .int .i64 xb, .int .i64 xr]) := X5
    obtain ⟨Z, eZ⟩ : ∃ Z, w4.heap.size = Z := ⟨_, rfl⟩
    rw [eZ] at XX ⊢
    have U5 : Hid (Below w.heap.size w w5) := bnext U0.out H05.out
    have CC1 : Hid (∀ k : Nat, k < nf → _) := C1.out w5 _ x _ U5.out EX.out.2.1 EX.out.2.2 EX.out.1 HX5.out
    have CC2 : Hid (∀ k : Nat, k < nd → _) := C2.out w5 _ x _ U5.out EX.out.2.1 EX.out.2.2 EX.out.1 HX5.out
    have KS : Hid (∀ W, Below w5.heap.size w5 W → W.cell? ⟨w.heap.size, 0, none⟩ = some (.slice fa nf fc) ∧ W.cell? ⟨w.heap.size, 1, none⟩ = some (.slice da nd dc) ∧ W.cell? ⟨w.heap.size, 2, none⟩ = some (.int .i64 E) ∧
        W.cell? ⟨Z, 0, none⟩ = some (.slice xa xn xc) ∧ W.cell? ⟨Z, 1, none⟩ = some (.slice ya yn yc) ∧ W.cell? ⟨Z, 2, none⟩ = some (.int .i64 xw) ∧ W.cell? ⟨Z, 3, none⟩ = some (.int .i64 xb) ∧ W.cell? ⟨Z, 4, none⟩ = some (.int .i64 xr)) := fun W hW => by
      obtain ⟨c0, c1, c2⟩ := XC.out W (bnext H05.out hW)
      exact ⟨c0, c1, c2, cell_any (XX.out.1 0 _ rfl) hW, cell_any (XX.out.1 1 _ rfl) hW, cell_any (XX.out.1 2 _ rfl) hW, cell_any (XX.out.1 3 _ rfl) hW, cell_any (XX.out.1 4 _ rfl) hW⟩
    clear X5 B5 p0 p1 p2 p0' p1' p2' HX4 eZ hB1 hB2 hB4 NA C1 C2 AL FI PL AW
    go_loopw [6] (fun i wr => ∃ k : Nat, k ≤ nf ∧ i = .int .i64 k ∧ Below w5.heap.size w5 wr) (fun i _ => nf - (intOf i).toNat)
    case atStart => exact ⟨0, Nat.zero_le _, rfl, Below.refl _ _⟩
    case round =>
      obtain ⟨k, hk, rfl, hb⟩ := hrel
      have HB : Hid (Below w5.heap.size w5 wr) := hb
      clear hb
      have HW : Hid (Below w.heap.size w wr) := bnext U0.out (bnext H05.out HB.out)
      obtain ⟨k0, k1, -, -, -, -, -, -⟩ := KS.out wr HB.out
      by_cases hlt : k < nf
      · have hlt' : (k : Int) < nf := by omega
        obtain ⟨b, off, F, rfl, -, hx, ca, m, cc, hcell, hsrc, hhd, hm, hwr⟩ := FX.out k hlt
        obtain ⟨L, e0, hwq, hc1⟩ := CC1.out k hlt
        obtain ⟨m7, em7⟩ : ∃ m, L.length = m := ⟨_, rfl⟩
        rw [em7] at hc1
        have HC1 : Hid (∀ W', Below w5.heap.size w5 W' → Calls Tryd.prog 11 #[.agg #[.slice (some ⟨b, off, none⟩) nf fc, .slice da nd dc, .int .i64 E], .agg #[.slice xa xn xc, .slice ya yn yc, .int .i64 xw, .int .i64 xb, .int .i64 xr], .int .i64 k] W' fun e w' => ∃ a c, e = .returned (.tuple #[.slice a m7 c, .int .i64 e0]) ∧ RowU .u32 W'.heap.size w' (.slice a m7 c) L ∧ Below W'.heap.size W' w') := hc1
        have HSRC : Hid (IsWords Any8 w (.slice ca m cc) F.code ∧ F.code.length = m ∧ m ≤ 70000 ∧ Wrd F.code ∧ w.cell? ⟨b, off + k * 5 + 3, none⟩ = some (.slice ca m cc)) := ⟨hsrc, hhd, hm, hwr, hcell⟩
        have HHD : Hid (Head ca m cc ∧ cc ≤ maxLen) := by
          obtain ⟨a', c', e', hh', -⟩ := hsrc.1
          rw [hhd] at e' hh'
          injection e' with e1 e2 e3
          subst e1 e3
          exact hh'
        have SRC : Hid (∀ W, Below w.heap.size w W → ∀ ad, ca = some ad → ∀ j u, (F.code.map fun x => Value.int .u32 x)[j]? = some u → W.cell? (ad.add j) = some u) := fun W hW ad e j u hu => by
          obtain ⟨a', c', e', -, -, hl'⟩ := hsrc.1
          injection e' with e1 e2 e3
          subst e1
          exact cell_any (lst_cells hl' ad e j u hu) hW
        clear hc1 hwq em7 hsrc hhd hm hwr hcell hx
        have e1 := cell_any k0 (keep_alloc8 (Below.refl _ _) (.cells #[] 47))
        have e3 := cell_any HSRC.out.2.2.2.2 (bnext HW.out (keep_alloc8 (Below.refl _ _) (.cells #[] 47)))
        go_upto_region 11 with (at_builtin; refine wpList_append_fresh wr rfl (.tmp 41) (.tmp 47) 34 rfl 47 (.int .u32 0) 4 Tryd.underlying34 infoU32 rfl rfl ca m cc (F.code.map fun x => Value.int .u32 x) rfl (by rw [List.length_map]; exact HSRC.out.2.1) (head_nil HHD.out.1) (SRC.out _ HW.out) (by simp [Value.oneCell']) (by have := HSRC.out.2.2.1; unfold maxLen; omega) (by have := HSRC.out.2.2.1; omega) ?_; intro a6 c6 w6 own6 hb6)
        have R6 : Hid (IsWords Any8 w6 (.slice a6 m c6) F.code) := by
          have h := own6
          rw [← HSRC.out.2.1] at h ⊢
          exact RowU.words (own_rowU h) HSRC.out.2.2.2.1
        have B6 : Hid (Below w5.heap.size w5 w6) := bnext HB.out hb6
        clear own6 hb6 e1 e3 k0 k1
        obtain ⟨k0, k1, k2, k3, k4, k5, k6, k7⟩ := KS.out w6 B6.out
        go_upto_region 12 with (go_at_call 11; refine (HC1.out _ B6.out).mono ?_; rintro e w7 ⟨a7, c7, rfl, hr7, hb7⟩)
        have R7 : Hid (RowU .u32 w6.heap.size w7 (.slice a7 m7 c7) L ∧ Below w6.heap.size w6 w7) := ⟨hr7, hb7⟩
        have hm7 : Hid (m7 ≤ maxLen) := by
          obtain ⟨a', c', e', hh', -⟩ := hr7
          injection e' with e1 e2 e3
          have := hh'.1.1
          rw [e2]
          exact Nat.le_trans this hh'.2
        clear k0 k1 k2 k3 k4 k5 k6 k7 hr7 hb7
        have hm7' := may_len hm7.out
        go_wp2
        go_loopw [10] (fun v wr => ∃ i L', i ≤ m7 ∧ v = .int .i64 (i : Nat) ∧ RowU .u32 w6.heap.size wr (.slice a7 m7 c7) L' ∧ Below w6.heap.size w6 wr) (fun v _ => m7 - (intOf v).toNat)
        case atStart => exact ⟨0, L, Nat.zero_le _, rfl, R7.out.1, R7.out.2⟩
        case round =>
          obtain ⟨i, L', hi, rfl, hrow, hbb⟩ := hrel
          have HRW : Hid (RowU .u32 w6.heap.size wr (.slice a7 m7 c7) L') := hrow
          have HB2 : Hid (Below w6.heap.size w6 wr) := hbb
          have HL' : Hid (L'.length = m7) := by
            obtain ⟨a', c', e', -⟩ := hrow
            injection e' with e1 e2 e3
            exact e2.symm
          clear hrow hbb
          by_cases hil : i < m7
          · have hil' : (i : Int) < m7 := by omega
            obtain ⟨y, hy⟩ := get_some (l := L') (k := i) (by rw [HL'.out]; exact hil)
            obtain ⟨g, rfl, g1, g2, gc, gf, gset⟩ := HRW.out.at hy
            have GS : Hid (∀ u, RowU .u32 w6.heap.size (wr.setCell ⟨g, i, none⟩ (.int .u32 u)) (.slice (some ⟨g, 0, none⟩) m7 c7) (L'.set i u)) := gset
            have G1 : Hid (w6.heap.size ≤ g) := g1
            clear gset g1 g2 hy
            go_wp2
            go_roundw
            case rel => exact ⟨i + 1, L'.set i 7, by omega, by go_num, GS.out 7, HB2.out.setCell G1.out _⟩
            case measure => simp [intOf]; omega
          · obtain rfl : i = m7 := by omega
            have HW8 : Hid (Below w.heap.size w wr ∧ Below w5.heap.size w5 wr) := ⟨bnext U0.out (bnext H05.out (bnext B6.out HB2.out)), bnext B6.out HB2.out⟩
            obtain ⟨k0, k1, -, -, -, -, -, -⟩ := KS.out wr HW8.out.2
            have e3 := cell_any HSRC.out.2.2.2.2 HW8.out.1
            go_wp2_with (go_at_call 13; refine (rwords_any (HSRC.out.1.keep (Stay.of_below HW8.out.1)) (R6.out.keep (Stay.of_below HB2.out))).mono ?_; rintro e w8 ⟨⟨b8, rfl, hb8⟩, hB8⟩; obtain rfl : b8 = true := hb8.2 rfl)
            go_roundw
            case rel => exact ⟨k + 1, by omega, by go_num, bnext HW8.out.2 hB8⟩
            case measure => simp [intOf]; omega
      · have hkn : k = nf := by omega
        subst k
        have HBF : Hid (Below w5.heap.size w5 wr) := HB.out
        clear HB HW
        go_wp2
        go_loopw [11] (fun i wr => ∃ k : Nat, k ≤ nd ∧ i = .int .i64 k ∧ Below w5.heap.size w5 wr) (fun i _ => nd - (intOf i).toNat)
        case atStart => exact ⟨0, Nat.zero_le _, rfl, HBF.out⟩
        case round =>
          obtain ⟨k, hk, rfl, hb⟩ := hrel
          have HB : Hid (Below w5.heap.size w5 wr) := hb
          clear hb
          have HW : Hid (Below w.heap.size w wr) := bnext U0.out (bnext H05.out HB.out)
          obtain ⟨k0, k1, -, -, -, -, -, -⟩ := KS.out wr HB.out
          by_cases hlt : k < nd
          · have hlt' : (k : Int) < nd := by omega
            obtain ⟨b, off, D, rfl, -, hx, ca, m, cc, hcell, hsrc, hhd, hm, hwr⟩ := DX.out k hlt
            obtain ⟨L, e0, hwq, hc1⟩ := CC2.out k hlt
            obtain ⟨m7, em7⟩ : ∃ m, L.length = m := ⟨_, rfl⟩
            rw [em7] at hc1
            have HC1 : Hid (∀ W', Below w5.heap.size w5 W' → Calls Tryd.prog 14 #[.agg #[.slice fa nf fc, .slice (some ⟨b, off, none⟩) nd dc, .int .i64 E], .agg #[.slice xa xn xc, .slice ya yn yc, .int .i64 xw, .int .i64 xb, .int .i64 xr], .int .i64 k] W' fun e w' => ∃ a c, e = .returned (.tuple #[.slice a m7 c, .int .i64 e0]) ∧ RowU .u8 W'.heap.size w' (.slice a m7 c) L ∧ Below W'.heap.size W' w') := hc1
            have HSRC : Hid (IsBytes Any8 w (.slice ca m cc) D.bytes ∧ D.bytes.length = m ∧ m ≤ 4096 ∧ Byt D.bytes ∧ w.cell? ⟨b, off + k * 5 + 3, none⟩ = some (.slice ca m cc)) := ⟨hsrc, hhd, hm, hwr, hcell⟩
            have HHD : Hid (Head ca m cc ∧ cc ≤ maxLen) := by
              obtain ⟨a', c', e', hh', -⟩ := hsrc.1
              rw [hhd] at e' hh'
              injection e' with e1 e2 e3
              subst e1 e3
              exact hh'
            have SRC : Hid (∀ W, Below w.heap.size w W → ∀ ad, ca = some ad → ∀ j u, (D.bytes.map fun x => Value.int .u8 x)[j]? = some u → W.cell? (ad.add j) = some u) := fun W hW ad e j u hu => by
              obtain ⟨a', c', e', -, -, hl'⟩ := hsrc.1
              injection e' with e1 e2 e3
              subst e1
              exact cell_any (lst_cells hl' ad e j u hu) hW
            clear hc1 hwq em7 hsrc hhd hm hwr hcell hx
            have e1 := cell_any k1 (keep_alloc8 (Below.refl _ _) (.cells #[] 5))
            have e3 := cell_any HSRC.out.2.2.2.2 (bnext HW.out (keep_alloc8 (Below.refl _ _) (.cells #[] 5)))
            go_upto_region 22 with (at_builtin; refine wpList_append_fresh wr rfl (.tmp 81) (.tmp 87) 38 rfl 5 (.int .u8 0) 1 Tryd.underlying38 infoU8 rfl rfl ca m cc (D.bytes.map fun x => Value.int .u8 x) rfl (by rw [List.length_map]; exact HSRC.out.2.1) (head_nil HHD.out.1) (SRC.out _ HW.out) (by simp [Value.oneCell']) (by have := HSRC.out.2.2.1; unfold maxLen; omega) (by have := HSRC.out.2.2.1; omega) ?_; intro a6 c6 w6 own6 hb6)
            have R6 : Hid (IsBytes Any8 w6 (.slice a6 m c6) D.bytes) := by
              have h := own6
              rw [← HSRC.out.2.1] at h ⊢
              exact RowU.bytes (own_rowU h) HSRC.out.2.2.2.1
            have B6 : Hid (Below w5.heap.size w5 w6) := bnext HB.out hb6
            clear own6 hb6 e1 e3 k0 k1
            obtain ⟨k0, k1, k2, k3, k4, k5, k6, k7⟩ := KS.out w6 B6.out
            go_upto_region 23 with (go_at_call 14; refine (HC1.out _ B6.out).mono ?_; rintro e w7 ⟨a7, c7, rfl, hr7, hb7⟩)
            have R7 : Hid (RowU .u8 w6.heap.size w7 (.slice a7 m7 c7) L ∧ Below w6.heap.size w6 w7) := ⟨hr7, hb7⟩
            have hm7 : Hid (m7 ≤ maxLen) := by
              obtain ⟨a', c', e', hh', -⟩ := hr7
              injection e' with e1 e2 e3
              have := hh'.1.1
              rw [e2]
              exact Nat.le_trans this hh'.2
            clear k0 k1 k2 k3 k4 k5 k6 k7 hr7 hb7
            have hm7' := may_len hm7.out
            go_wp2
            go_loopw [15] (fun v wr => ∃ i L', i ≤ m7 ∧ v = .int .i64 (i : Nat) ∧ RowU .u8 w6.heap.size wr (.slice a7 m7 c7) L' ∧ Below w6.heap.size w6 wr) (fun v _ => m7 - (intOf v).toNat)
            case atStart => exact ⟨0, L, Nat.zero_le _, rfl, R7.out.1, R7.out.2⟩
            case round =>
              obtain ⟨i, L', hi, rfl, hrow, hbb⟩ := hrel
              have HRW : Hid (RowU .u8 w6.heap.size wr (.slice a7 m7 c7) L') := hrow
              have HB2 : Hid (Below w6.heap.size w6 wr) := hbb
              have HL' : Hid (L'.length = m7) := by
                obtain ⟨a', c', e', -⟩ := hrow
                injection e' with e1 e2 e3
                exact e2.symm
              clear hrow hbb
              by_cases hil : i < m7
              · have hil' : (i : Int) < m7 := by omega
                obtain ⟨y, hy⟩ := get_some (l := L') (k := i) (by rw [HL'.out]; exact hil)
                obtain ⟨g, rfl, g1, g2, gc, gf, gset⟩ := HRW.out.at hy
                have GS : Hid (∀ u, RowU .u8 w6.heap.size (wr.setCell ⟨g, i, none⟩ (.int .u8 u)) (.slice (some ⟨g, 0, none⟩) m7 c7) (L'.set i u)) := gset
                have G1 : Hid (w6.heap.size ≤ g) := g1
                clear gset g1 g2 hy
                go_wp2
                go_roundw
                case rel => exact ⟨i + 1, L'.set i 7, by omega, by go_num, GS.out 7, HB2.out.setCell G1.out _⟩
                case measure => simp [intOf]; omega
              · obtain rfl : i = m7 := by omega
                have HW8 : Hid (Below w.heap.size w wr ∧ Below w5.heap.size w5 wr) := ⟨bnext U0.out (bnext H05.out (bnext B6.out HB2.out)), bnext B6.out HB2.out⟩
                obtain ⟨k0, k1, -, -, -, -, -, -⟩ := KS.out wr HW8.out.2
                have e3 := cell_any HSRC.out.2.2.2.2 HW8.out.1
                go_wp2_with (go_at_call 16; refine (rbytes_any (HSRC.out.1.keep (Stay.of_below HW8.out.1)) (R6.out.keep (Stay.of_below HB2.out))).mono ?_; rintro e w8 ⟨⟨b8, rfl, hb8⟩, hB8⟩; obtain rfl : b8 = true := hb8.2 rfl)
                go_roundw
                case rel => exact ⟨k + 1, by omega, by go_num, bnext HW8.out.2 hB8⟩
                case measure => simp [intOf]; omega
          · have hkn : k = nd := by omega
            subst k
            go_wp2
            go_ret
            exact ⟨rfl, HW.out⟩
  · go_wp2
    go_ret
    exact ⟨rfl, bnext U0.out (bnext BA.out (bnext hB1 (bnext hB2 (keep_alloc8 hB4 _))))⟩
end Go.Proofs.YtombfnnpdamlgaaDoor
