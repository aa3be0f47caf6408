/- PatchDatas, walked. -/
import Derived.Test.YtombfnnpdamlgaaDoorPatPlan
import Derived.Test.YtombfnnpdamlgaaDoorPatRefD
import Derived.Test.YtombfnnpdamlgaaDoorObjSame2
namespace Go.Proofs.YtombfnnpdamlgaaDoor
open Go.ChangeShapes Go.WideShapes Go.ChangeAt Go.RowKit
set_option linter.unusedVariables false
set_option linter.unusedSimpArgs false
set_option maxRecDepth 100000 in
set_option maxHeartbeats 4000000 in
theorem datas_walk (w : World) (v : Value) (p : ProgM) (h : IsProg Any8 w v p) (vo : Value) (o : List Int) (hn : IsNums w vo o) (hT : Tab w) :
    Calls Tryd.prog 4 #[v, vo] w fun e w' => e = .returned (.bool true) ∧ Below w.heap.size w w' := by
  obtain ⟨z, hz, ho⟩ := h.place
  have AW : Hid (∀ W, Below w.heap.size w W → Calls Tryd.prog 8 #[] W fun e w' => e = .returned (.bool true) ∧ Below W.heap.size W w') := fun W hW => awake13 W (hT.later hW)
  have FI : Hid (∀ W, Below w.heap.size w W → Calls Tryd.prog 9 #[v, vo] W fun e w' => OnlyIf e (MayB z ∧ RightP p ∧ o.length ≤ 400) ∧ Below W.heap.size W w') := fun W hW => fine_any (h.later hW) (hz.later hW) ho (hn.later hW)
  have PL : Hid (MayB z → o.length ≤ 400 → ∀ W, Below w.heap.size w W → Calls Tryd.prog 10 #[v, vo] W fun e w' => PlanPost W.heap.size (planZ z o) e w' ∧ Below W.heap.size W w') := fun hm hl W hW => plan_any (hz.later hW) (hn.later hW) hm.may hl
  have CC : Hid (∀ W vx x base, Below w.heap.size w W → MayB z → RightP p → planZ z o = (0, x) → IsPlan base W vx x → ∀ k : Nat, k < z.datas.length → ∃ (L : List Int) (e0 : Int), Byt L ∧
      (∀ W', Below W.heap.size W W' → Calls Tryd.prog 14 #[v, vx, .int .i64 k] W' fun e w' => ∃ a c, e = .returned (.tuple #[.slice a L.length c, .int .i64 e0]) ∧ RowU .u8 W'.heap.size w' (.slice a L.length c) L ∧ Below W'.heap.size W' w') ∧
      ∀ W', Below W.heap.size W W' → Calls Tryd.prog 15 #[v, vx, .int .i64 k] W' fun e w' => ∃ a c, e = .returned (.tuple #[.slice a L.length c, .int .i64 e0]) ∧ RowU .u8 W'.heap.size w' (.slice a L.length c) L ∧ Below W'.heap.size W' w') := fun W vx x base hW hm hr hp hx k hk => by
    obtain ⟨hok, -⟩ := plan_good hm ho hp
    obtain ⟨D, hD⟩ := get_some (l := p.datas) (k := k) (by rw [← ho.2.2.1]; exact hk)
    obtain ⟨s1, s2, s3⟩ := hm.size ho D (List.mem_of_getElem? hD)
    refine ⟨(dataZ x D).getD [], if dataZ x D = none then 7 else 0, dataZ_byt (h.wrd.2 D (List.mem_of_getElem? hD)), fun W' hW' => ?_, fun W' hW' => ?_⟩
    · refine (pdata_any (h.later (bnext hW hW')) (hx.later hW') hr hok k hD s1 s2 s3).mono ?_
      rintro e w' ⟨hrp, hb⟩
      obtain ⟨a, c', he, hr⟩ := hrp.open
      exact ⟨a, c', he, hr, hb⟩
    · refine (rdata_any (h.later (bnext hW hW')) (hx.later hW') hr hok k hD s1 s2 s3).mono ?_
      rintro e w' ⟨hrp, hb⟩
      obtain ⟨a, c', he, hr⟩ := hrp.open
      exact ⟨a, c', he, hr, hb⟩
  obtain ⟨fa, fc, da, dc, rfl, -, -⟩ := hz.open
  obtain ⟨oa, oc, rfl, om, -, ox⟩ := LstA.open hn
  have om' := may_len om
  have dm : z.datas.length ≤ maxLen := by
    obtain ⟨vf', vd', ev', -, hd'⟩ := id hz
    obtain ⟨da', dc', e, dm, -, -⟩ := LstA.open hd'
    exact dm
  have dm' := may_len dm
  have HN : Hid (IsNums w (.slice oa o.length oc) o) := hn
  obtain ⟨n, en⟩ : ∃ n, o.length = n := ⟨_, rfl⟩
  obtain ⟨nf, enf⟩ : ∃ n, z.codes.length = n := ⟨_, rfl⟩
  obtain ⟨nd, endd⟩ : ∃ n, z.datas.length = n := ⟨_, rfl⟩
  obtain ⟨E, eE⟩ : ∃ n, z.entry = n := ⟨_, rfl⟩
  rw [en] at om' ox
  rw [en] at FI PL HN ⊢
  rw [endd] at dm'
  rw [enf, endd, eE] at FI PL CC ⊢
  have OX : Hid (∀ k, k < n → ∃ b off x, oa = some ⟨b, off, none⟩ ∧ Any8 b ∧ o[k]? = some x ∧ NumAt .i64 w b (off + k * 1) x) := ox
  clear h hz hn hT om ox en enf endd eE dm
  have X0 := XAt.new w #[.slice fa nf fc, .slice da nd dc, .int .i64 E] 25
  have UP := keep_alloc8 (Below.refl w.heap.size w) (.cells #[.slice fa nf fc, .slice da nd dc, .int .i64 E] 25)
  go_enter Tryd.func4, Tryd.ntmps4
  go_upto_region 1 with fail
  generalize w.alloc (.cells #[.slice fa nf fc, .slice da nd dc, .int .i64 E] 25) = w0 at X0 UP ⊢
  have U0 : Hid (Below w.heap.size w w0) := UP
  have X0' : Hid (XAt w0 w.heap.size [.slice fa nf fc, .slice da nd dc, .int .i64 E]) := X0
  have XC : Hid (∀ W, Below w0.heap.size w0 W → W.cell? ⟨w.heap.size, 0, none⟩ = some (.slice fa nf fc) ∧ W.cell? ⟨w.heap.size, 1, none⟩ = some (.slice da nd dc) ∧ W.cell? ⟨w.heap.size, 2, none⟩ = some (.int .i64 E)) := fun W hW => ⟨cell_any (X0'.out.1 0 _ rfl) hW, cell_any (X0'.out.1 1 _ rfl) hW, cell_any (X0'.out.1 2 _ rfl) hW⟩
  clear X0 UP
  go_wp2_with (first
    | (go_at_call 9; refine (FI.out _ (bnext U0.out hB1)).mono ?_; rintro e w2 ⟨⟨b1, rfl, hb1⟩, hB2⟩; have HM1 : Hid (b1 = true → MayB z ∧ RightP p ∧ n ≤ 400) := hb1; clear hb1; obtain ⟨p0', p1', p2'⟩ := XC.out _ (bnext hB1 hB2); cases b1)
    | (go_at_call 8; have q := U0; refine (AW.out _ (by first | exact U0.out | exact bnext (bnext U0.out hB1) hB2)).mono ?_; first | (rintro e w3 ⟨rfl, hB3⟩; have qq := hB2) | (rintro e w1 ⟨rfl, hB1⟩; obtain ⟨p0, p1, p2⟩ := XC.out _ hB1))
    | (go_at_call 10; refine (PL.out (HM1.out (by first | rfl | trivial)).1 (HM1.out (by first | rfl | trivial)).2.2 _ (bnext (bnext U0.out hB1) hB2)).mono ?_; rintro e w4 ⟨hpl, hB4⟩; obtain ⟨xa, xn, xc, ya, yn, yc, xw, xb, xr, er, rfl, her, hip⟩ := hpl.open; have HP : Hid (er = (planZ z o).1 ∧ IsPlan _ w4 (.agg #[.slice xa xn xc, .slice ya yn yc, .int .i64 xw, .int .i64 xb, .int .i64 xr]) (planZ z o).2) := ⟨her, hip⟩; clear her hip hpl; by_cases her0 : er = 0))
  · go_ret
    exact ⟨rfl, bnext (bnext (bnext U0.out hB1) hB2) hB3⟩
  · subst her0
    obtain ⟨x, ex⟩ : ∃ x, planZ z o = (0, x) := ⟨(planZ z o).2, Prod.ext HP.out.1.symm rfl⟩
    have HX4 : Hid (IsPlan w2.heap.size w4 (.agg #[.slice xa xn xc, .slice ya yn yc, .int .i64 xw, .int .i64 xb, .int .i64 xr]) x) := by have h := HP.out.2; rw [ex] at h; exact h
    have EX : Hid (planZ z o = (0, x) ∧ MayB z ∧ RightP p) := ⟨ex, (HM1.out (by first | rfl | trivial)).1, (HM1.out (by first | rfl | trivial)).2.1⟩
    clear ex HP HM1
    have X5 := XAt.new w4 #[.slice xa xn xc, .slice ya yn yc, .int .i64 xw, .int .i64 xb, .int .i64 xr] 30
    have B5 := keep_alloc8 (Below.refl w4.heap.size w4) (.cells #[.slice xa xn xc, .slice ya yn yc, .int .i64 xw, .int .i64 xb, .int .i64 xr] 30)
    go_upto_region 7 with fail
    generalize w4.alloc (.cells #[.slice xa xn xc, .slice ya yn yc, .int .i64 xw, .int .i64 xb, .int .i64 xr] 30) = w5 at X5 B5 ⊢
    have H05 : Hid (Below w0.heap.size w0 w5) := bnext hB1 (bnext hB2 (bnext hB4 B5))
    have HX5 : Hid (IsPlan w2.heap.size w5 (.agg #[.slice xa xn xc, .slice ya yn yc, .int .i64 xw, .int .i64 xb, .int .i64 xr]) x) := HX4.out.later B5
    have XX : Hid (XAt w5 w4.heap.size [.slice xa xn xc, .slice ya yn yc, .int .i64 xw, .int .i64 xb, .int .i64 xr]) := X5
    obtain ⟨Z, eZ⟩ : ∃ Z, w4.heap.size = Z := ⟨_, rfl⟩
    rw [eZ] at XX ⊢
    clear X5 B5 p0 p1 p2 p0' p1' p2' HX4 eZ
    go_loopw [7] (fun i wr => ∃ k : Nat, k ≤ nd ∧ i = .int .i64 k ∧ Below w5.heap.size w5 wr) (fun i _ => nd - (intOf i).toNat)
    case atStart => exact ⟨0, Nat.zero_le _, rfl, Below.refl _ _⟩
    case round =>
      obtain ⟨k, hk, rfl, hb⟩ := hrel
      have HB : Hid (Below w5.heap.size w5 wr) := hb
      clear hb
      have HW : Hid (Below w.heap.size w wr) := bnext U0.out (bnext H05.out HB.out)
      have KS : Hid (∀ W, Below wr.heap.size wr W → W.cell? ⟨w.heap.size, 0, none⟩ = some (.slice fa nf fc) ∧ W.cell? ⟨w.heap.size, 1, none⟩ = some (.slice da nd dc) ∧ W.cell? ⟨w.heap.size, 2, none⟩ = some (.int .i64 E) ∧
          W.cell? ⟨Z, 0, none⟩ = some (.slice xa xn xc) ∧ W.cell? ⟨Z, 1, none⟩ = some (.slice ya yn yc) ∧ W.cell? ⟨Z, 2, none⟩ = some (.int .i64 xw) ∧ W.cell? ⟨Z, 3, none⟩ = some (.int .i64 xb) ∧ W.cell? ⟨Z, 4, none⟩ = some (.int .i64 xr)) := fun W hW => by
        obtain ⟨c0, c1, c2⟩ := XC.out W (bnext H05.out (bnext HB.out hW))
        have h5 := bnext HB.out hW
        exact ⟨c0, c1, c2, cell_any (XX.out.1 0 _ rfl) h5, cell_any (XX.out.1 1 _ rfl) h5, cell_any (XX.out.1 2 _ rfl) h5, cell_any (XX.out.1 3 _ rfl) h5, cell_any (XX.out.1 4 _ rfl) h5⟩
      obtain ⟨k0, k1, k2, k3, k4, k5, k6, k7⟩ := KS.out wr (Below.refl _ _)
      by_cases hlt : k < nd
      · have hlt' : (k : Int) < nd := by omega
        obtain ⟨L, e0, hwq, hc1, hc2⟩ := CC.out wr _ x _ HW.out EX.out.2.1 EX.out.2.2 EX.out.1 (HX5.out.later HB.out) k hlt
        obtain ⟨m, em⟩ : ∃ m, L.length = m := ⟨_, rfl⟩
        rw [em] at hc1 hc2
        have HC1 : Hid (∀ W', Below wr.heap.size wr W' → Calls Tryd.prog 14 #[.agg #[.slice fa nf fc, .slice da nd dc, .int .i64 E], .agg #[.slice xa xn xc, .slice ya yn yc, .int .i64 xw, .int .i64 xb, .int .i64 xr], .int .i64 k] W' fun e w' => ∃ a c, e = .returned (.tuple #[.slice a m c, .int .i64 e0]) ∧ RowU .u8 W'.heap.size w' (.slice a m c) L ∧ Below W'.heap.size W' w') := hc1
        have HC2 : Hid (∀ W', Below wr.heap.size wr W' → Calls Tryd.prog 15 #[.agg #[.slice fa nf fc, .slice da nd dc, .int .i64 E], .agg #[.slice xa xn xc, .slice ya yn yc, .int .i64 xw, .int .i64 xb, .int .i64 xr], .int .i64 k] W' fun e w' => ∃ a c, e = .returned (.tuple #[.slice a m c, .int .i64 e0]) ∧ RowU .u8 W'.heap.size w' (.slice a m c) L ∧ Below W'.heap.size W' w') := hc2
        have HQ : Hid (Byt L) := hwq
        clear hwq hc1 hc2 em
        go_upto_region 10 with (go_at_call 14; refine (HC1.out _ (Below.refl _ _)).mono ?_; rintro e w6 ⟨a6, c6, rfl, hr6, hb6⟩)
        have R6 : Hid (IsBytes Any8 w6 (.slice a6 m c6) L) := RowU.bytes hr6 HQ.out
        have B6 : Hid (Below wr.heap.size wr w6) := hb6
        clear k0 k1 k2 k3 k4 k5 k6 k7 hb6 hr6
        obtain ⟨k0, k1, k2, k3, k4, k5, k6, k7⟩ := KS.out w6 B6.out
        go_upto_region 11 with (go_at_call 15; refine (HC2.out _ B6.out).mono ?_; rintro e w7 ⟨a7, c7, rfl, hr7, hb7⟩)
        have R7 : Hid (IsBytes Any8 w7 (.slice a7 m c7) L) := RowU.bytes hr7 HQ.out
        have R6' : Hid (IsBytes Any8 w7 (.slice a6 m c6) L) := R6.out.keep (Stay.of_below hb7)
        have B7 : Hid (Below wr.heap.size wr w7) := bnext B6.out hb7
        clear k0 k1 k2 k3 k4 k5 k6 k7 hb7 hr7
        go_wp2_with (go_at_call 16; refine (rbytes_any R6'.out R7.out).mono ?_; rintro e w8 ⟨⟨b8, rfl, hb8⟩, hB8⟩; obtain rfl : b8 = true := hb8.2 rfl)
        go_roundw
        case rel => exact ⟨k + 1, by omega, by go_num, bnext HB.out (bnext B7.out hB8)⟩
        case measure => simp [intOf]; omega
      · obtain rfl : k = nd := by omega
        go_wp2
        go_ret
        exact ⟨rfl, bnext U0.out (bnext H05.out HB.out)⟩
  · go_wp2
    go_ret
    exact ⟨rfl, bnext U0.out (bnext hB1 (bnext hB2 (keep_alloc8 hB4 _)))⟩
end Go.Proofs.YtombfnnpdamlgaaDoor
