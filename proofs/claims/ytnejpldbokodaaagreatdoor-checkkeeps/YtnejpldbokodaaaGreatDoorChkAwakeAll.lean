/- What is told of an object, and what check.Object answers. Answers that the document fixes. -/
import Derived.Test.YtnejpldbokodaaaGreatDoorChkFunAll
import Derived.Test.YtnejpldbokodaaaGreatDoorChkStrAll
import Derived.Test.YtnejpldbokodaaaGreatDoorObjPtAll
namespace Go.Proofs.YtnejpldbokodaaaGreatDoor
open Go.ChangeShapes Go.WideShapes Go.ChangeAt Go.RowKit Go.Shelf
set_option linter.unusedVariables false
set_option linter.unusedSimpArgs false
theorem few_of_ok {o : ObjM} (h : objOk o) : fewO o := by
  obtain ⟨⟨f1, f2⟩, ⟨d1, d2⟩, ⟨n1, -⟩⟩ := h
  refine ⟨⟨by omega, by omega, by omega⟩, fun f hf => ?_, fun d hd => ?_⟩
  · obtain ⟨q1, -, q2, q3⟩ := f2 f hf
    have := named_len q1
    exact ⟨by have := q2.1; omega, by have := q3.1; omega, by omega⟩
  · obtain ⟨q1, -, -, -, q2, q3⟩ := d2 d hd
    have := named_len q1
    exact ⟨by have := q2.1; omega, by have := q3.1; omega, by omega⟩
/-- What object.Write answers, its error. -/
theorem write_err {A : Nat → Prop} {w : World} {v : Value} {p : ObjM} (h : IsObj A w v p) (c : Bool) (hc : c = true ↔ objOk p) :
    Calls Tryz.prog 49 #[v] w fun e w' => ∃ a n k, e = .returned (.tuple #[.slice a n k, .int .i64 (if c = true then 0 else 4)]) ∧ Below w.heap.size w w' := by
  refine (write_all h).mono ?_
  rintro e w' ⟨⟨hok, v', rfl, ho⟩ | ⟨hok, a, k, rfl⟩, hb⟩
  · obtain ⟨a, n, k, rfl⟩ : ∃ a n k, v' = .slice a n k := by
      rcases ho.2 with ⟨rfl, _⟩ | ⟨g, cap, cur, rfl, _⟩
      · exact ⟨_, _, _, rfl⟩
      · exact ⟨_, _, _, rfl⟩
    exact ⟨a, n, k, by rw [if_pos (hc.2 hok)], hb⟩
  · exact ⟨a, 0, k, by rw [if_neg fun e => hok (hc.1 e)], hb⟩
set_option maxRecDepth 100000 in
set_option maxHeartbeats 8000000 in
theorem tells_obj {w w0 : World} {B ob : Nat} {o : ObjM} {u : Value} {A : Nat → Prop} (hB : B ≤ w.heap.size) (hob : ob < B) (hO : IsObj A w0 u o) (hw0 : w0.heap.size ≤ B) (hK : KC w0 w) (hT : Tab w)
    (hX : ∀ cs, u = .agg cs → XAt w ob cs.toList) :
    Tells Tryz.prog 48 #[.pointer (some ⟨ob, 0, none⟩)] (objE o) B w := by
  intro l J Jx W hW hJ hJx hY0 hYx h0
  have HO : Hid (IsObj A w0 u o) := hO
  obtain ⟨vf, vd, vn, rfl, hf, hd, hn⟩ := hO
  obtain ⟨fa, fc, rfl, -, -, fx⟩ := LstA.open hf
  obtain ⟨da, dc, rfl, -, -, dx⟩ := LstA.open hd
  obtain ⟨na, nc, rfl, -, -, nx⟩ := LstA.open hn
  have hx0 := hX _ rfl
  obtain ⟨F, eF⟩ : ∃ F, o.funcs.length = F := ⟨_, rfl⟩
  obtain ⟨D, eD⟩ : ∃ D, o.datas.length = D := ⟨_, rfl⟩
  obtain ⟨N, eN⟩ : ∃ N, o.notes.length = N := ⟨_, rfl⟩
  rw [eF, eD, eN] at HO hx0
  rw [eF] at fx
  rw [eD] at dx
  have EF : Hid (o.funcs.length = F ∧ o.datas.length = D) := ⟨eF, eD⟩
  have FX : Hid (∀ k, k < F → ∃ b off x, fa = some ⟨b, off, none⟩ ∧ A b ∧ o.funcs[k]? = some x ∧ FuncAt A w0 b (off + k * 4) x) := fx
  have DX : Hid (∀ k, k < D → ∃ b off x, da = some ⟨b, off, none⟩ ∧ A b ∧ o.datas[k]? = some x ∧ DataAt A w0 b (off + k * 7) x) := dx
  have HJ : Hid (∀ X Y, J X → Below X.heap.size X Y → J Y) := hJ
  have Y0 : Hid (∀ W1, J W1 → YieldAt Fence.wide 0 Tryz.prog l #[.int .i64 0] W1 fun e W' => e = .returned (.bool true) ∧ J W' ∧ Apart (Win B W.heap.size) W1 W') := hY0
  have YX : Hid (∀ x W1, x ≠ 0 → J W1 → YieldAt Fence.wide 0 Tryz.prog l #[.int .i64 x] W1 fun e W' => e = .returned (.bool false) ∧ Jx x W') := hYx
  have J0 : Hid (J W) := h0
  have hBW : B ≤ W.heap.size := Nat.le_trans hB hW.size
  have KF : Hid (∀ X, Apart (Win B W.heap.size) W X → KC w0 X ∧ Tab X ∧ XAt X ob [.slice fa F fc, .slice da D dc, .slice na N nc]) := fun X hX =>
    ⟨(hK.trans (KC.of_below hW)).apart hw0 hX, tab_apart (hT.later hW) hX (by omega), (hx0.later (by omega) hW).apart (by omega) hX fun h => by have := h.1; omega⟩
  have hFb : (F : Int) ≤ 9223372036854775807 ∧ (D : Int) ≤ 9223372036854775807 := by
    obtain ⟨-, -, e1, m1, -, -⟩ := LstA.open hf
    obtain ⟨-, -, e2, m2, -, -⟩ := LstA.open hd
    unfold maxLen at m1 m2
    omega
  obtain ⟨hF9, hD9⟩ := hFb
  obtain ⟨c1, I1⟩ := bool_of (objOk o)
  have CW : Hid (∀ X, KC w0 X → Calls Tryz.prog 49 #[.agg #[.slice fa F fc, .slice da D dc, .slice na N nc]] X fun e w' => ∃ a n k, e = .returned (.tuple #[.slice a n k, .int .i64 (if c1 = true then 0 else 4)]) ∧ Below X.heap.size X w') := fun X hX => write_err (HO.out.kc hX) c1 I1.out
  have y0 := (KF.out _ (Apart.refl _ _)).2.2.1 0 _ rfl
  have y1 := (KF.out _ (Apart.refl _ _)).2.2.1 1 _ rfl
  have y2 := (KF.out _ (Apart.refl _ _)).2.2.1 2 _ rfl
  have CW0 := CW.out _ (KF.out _ (Apart.refl _ _)).1
  have CW1 : Hid (Calls Tryz.prog 49 #[.agg #[.slice fa F fc, .slice da D dc, .slice na N nc]] W fun e w' => ∃ a n k, e = .returned (.tuple #[.slice a n k, .int .i64 (if c1 = true then 0 else 4)]) ∧ Below W.heap.size W w') := CW0
  clear hJ hY0 hYx h0 hW hf hd hn fx dx nx hx0 hX hK hT eF eD eN CW CW0
  refine callsIn_of_wp Tryz.func48 rfl trivial ?_ rfl
  simp only [Tryz.ntmps48, List.size_toArray, List.length_cons, List.length_nil, Nat.reduceAdd, Nat.reduceSub, Array.replicate_succ, Array.replicate_zero, List.push_toArray, List.append_toArray, List.nil_append, List.cons_append]
  cases c1
  · have E : Hid (objE o = 4) := objE_may fun h => by have := I1.out.2 h; cases this
    have CW2 : Hid (Calls Tryz.prog 49 #[.agg #[.slice fa F fc, .slice da D dc, .slice na N nc]] W fun e w' => ∃ a n k, e = .returned (.tuple #[.slice a n k, .int .i64 4]) ∧ Below W.heap.size W w') := CW1.out
    gi_wp2_with (refine ⟨trivial, rfl, ?_⟩; gi_at_call 49; refine (callsIn_wide.2 CW2.out).mono ?_; rintro e v1 ⟨qa, qn, qk, rfl, hb1⟩; obtain ⟨fn, tmps, assign, body, hy, hR⟩ := YX.out 4 v1 (by decide) (HJ.out _ _ J0.out hb1))
    refine ⟨rfl, hR.mono ?_⟩
    rintro e W' ⟨rfl, hx⟩
    gi_wp2
    exact bodyPost_ret (results_none rfl _ _ _) rfl ⟨⟨_, rfl⟩, .inr ⟨by rw [E.out]; decide, by rw [E.out]; exact hx⟩⟩
  have P1 : Hid (objOk o) := I1.out.1 rfl
  have CW2 : Hid (Calls Tryz.prog 49 #[.agg #[.slice fa F fc, .slice da D dc, .slice na N nc]] W fun e w' => ∃ a n k, e = .returned (.tuple #[.slice a n k, .int .i64 0]) ∧ Below W.heap.size W w') := CW1.out
  gi_wp2_with (refine ⟨trivial, rfl, ?_⟩; gi_at_call 49; refine (callsIn_wide.2 CW2.out).mono ?_; rintro e v1 ⟨qa, qn, qk, rfl, hb1⟩; have Jv1 := Hid.mk0 (HJ.out _ _ J0.out hb1); have Av1 := Hid.mk0 (Apart.of_below (O := Win B W.heap.size) hb1); clear hb1; obtain ⟨fn, tmps, assign, body, hy, hR⟩ := Y0.out v1 Jv1.out)
  refine ⟨rfl, hR.mono ?_⟩
  rintro e v2 ⟨rfl, hj, ha⟩
  have Jv2 : Hid (J v2) := hj
  have Av2 : Hid (Apart (Win B W.heap.size) W v2) := apart_next Av1.out ha
  clear hj ha hy hR y0 y1 y2 CW1 CW2 Jv1 Av1 J0
  have y0 := (KF.out _ Av2.out).2.2.1 0 _ rfl
  gi_wp2
  clear y0
  gi_loopw [21] (fun i wr => ∃ k : Nat, k ≤ F ∧ i = .int .i64 k ∧ (∀ j y, j < k → o.funcs[j]? = some y → fnE y = 0) ∧ J wr ∧ Apart (Win B W.heap.size) W wr) (fun i _ => F - (intOf i).toNat)
  case atStart => exact ⟨0, Nat.zero_le _, rfl, (fun j y hj => by omega), Jv2.out, Av2.out⟩
  case round =>
    obtain ⟨k, hk, rfl, hs, hj, ha⟩ := hrel
    have HS : Hid (∀ j y, j < k → o.funcs[j]? = some y → fnE y = 0) := hs
    have Jr : Hid (J wr) := hj
    have Ar : Hid (Apart (Win B W.heap.size) W wr) := ha
    clear hs hj ha
    by_cases hlt : k < F
    · have hlt' : (k : Int) < F := by omega
      obtain ⟨b, off, ⟨xn, xb, lc, lr⟩, rfl, -, hx, vc, vr, x0, x1, x2, x3, wc, wr', hsz⟩ := FX.out k hlt
      dsimp only at x0 x1 x2 x3 wc wr' hsz
      obtain ⟨ca, cc, rfl, -, -, -⟩ := LstA.open (id wc.1)
      obtain ⟨ra, rc, rfl, -, -, -⟩ := LstA.open (id wr')
      have HX : Hid (o.funcs[k]? = some ⟨xn, xb, lc, lr⟩) := hx
      have FN : Hid (∀ X, KC w0 X → Tab X → Calls Tryz.prog 8 #[.agg #[.string xn, .int .i64 xb, .slice ca lc.length cc, .slice ra lr.length rc]] X fun e w' => e = .returned (.int .i64 (fnE ⟨xn, xb, lc, lr⟩)) ∧ Below X.heap.size X w') := fun X h1 h2 => by
        have hq := (few_of_ok P1.out).2.1 _ (List.mem_of_getElem? hx)
        exact fun_any (A := A) (f := ⟨xn, xb, lc, lr⟩) ⟨_, _, rfl, wc.kc h1, wr'.kc h1, hsz⟩ (by have := hq.1; omega) (by have := hq.2.1; omega) h2
      have KR := KF.out _ Ar.out
      replace x0 := KR.1 _ _ x0
      replace x1 := KR.1 _ _ x1
      replace x2 := KR.1 _ _ x2
      replace x3 := KR.1 _ _ x3
      have U3 := keep_alloc8 (Below.refl _ wr) (.cells #[.string xn, .int .i64 xb, .slice ca lc.length cc, .slice ra lr.length rc] 25)
      have FC : Hid (Calls Tryz.prog 8 #[.agg #[.string xn, .int .i64 xb, .slice ca lc.length cc, .slice ra lr.length rc]] (wr.alloc (.cells #[.string xn, .int .i64 xb, .slice ca lc.length cc, .slice ra lr.length rc] 25)) fun e w' => e = .returned (.int .i64 (fnE ⟨xn, xb, lc, lr⟩)) ∧ Below wr.heap.size wr w') := (FN.out _ (KR.1.trans (KC.of_below U3)) (KR.2.1.later U3)).mono fun e w' h => ⟨h.1, bnext U3 h.2⟩
      clear hx wc wr' hsz KR U3 FN
      by_cases he : fnE ⟨xn, xb, lc, lr⟩ = 0
      · rw [he] at FC
        have NX : Hid (∀ j y, j < k + 1 → o.funcs[j]? = some y → fnE y = 0) := upto_next HS.out HX.out he
        clear he
        gi_wp2_with (refine ⟨trivial, rfl, ?_⟩; gi_at_call 8; refine (callsIn_wide.2 FC.out).mono ?_; rintro e v3 ⟨rfl, hb3⟩; have Jv3 := Hid.mk0 (HJ.out _ _ Jr.out hb3); have Av3 := Hid.mk0 (apart_step Ar.out hb3); clear hb3; obtain ⟨fn, tmps, assign, body, hy, hR⟩ := Y0.out v3 Jv3.out)
        refine ⟨rfl, hR.mono ?_⟩
        rintro e v4 ⟨rfl, hj, ha⟩
        have hj' : Hid (J v4 ∧ Apart (Win B W.heap.size) W v4) := ⟨hj, apart_next Av3.out ha⟩
        clear hj ha hy hR
        gi_wp2
        go_roundw
        case rel => exact ⟨k + 1, by omega, by go_num, NX.out, hj'.out.1, hj'.out.2⟩
        case measure => simp [intOf]; omega
      · have E : Hid (objE o = fnE ⟨xn, xb, lc, lr⟩) := objE_func P1.out (firstE_at HS.out HX.out he) he
        have EN : Hid (fnE ⟨xn, xb, lc, lr⟩ ≠ 0) := he
        generalize fnE ⟨xn, xb, lc, lr⟩ = x at FC E EN
        clear he
        gi_wp2_with (refine ⟨trivial, rfl, ?_⟩; gi_at_call 8; refine (callsIn_wide.2 FC.out).mono ?_; rintro e v3 ⟨rfl, hb3⟩; obtain ⟨fn, tmps, assign, body, hy, hR⟩ := YX.out x v3 EN.out (HJ.out _ _ Jr.out hb3))
        refine ⟨rfl, hR.mono ?_⟩
        rintro e W' ⟨rfl, hx⟩
        gi_wp2
        exact bodyPost_ret (results_none rfl _ _ _) rfl ⟨⟨_, rfl⟩, .inr ⟨by rw [E.out]; exact EN.out, by rw [E.out]; exact hx⟩⟩
    · obtain rfl : k = F := by omega
      have P2 : Hid (firstE fnE o.funcs = 0) := firstE_all (upto_all (P := fun y => fnE y = 0) (by rw [EF.out.1]; exact HS.out))
      clear HS
      have y1 := (KF.out _ Ar.out).2.2.1 1 _ rfl
      gi_wp2
      clear y1
      generalize wr = wa at Jr Ar ⊢
      gi_loopw [34] (fun i wr => ∃ k : Nat, k ≤ D ∧ i = .int .i64 k ∧ (∀ j y, j < k → o.datas[j]? = some y → rdataOk y) ∧ J wr ∧ Apart (Win B W.heap.size) W wr) (fun i _ => D - (intOf i).toNat)
      case atStart => exact ⟨0, Nat.zero_le _, rfl, (fun j y hj => by omega), Jr.out, Ar.out⟩
      case round =>
        clear Jr Ar
        obtain ⟨q, hq, rfl, hs, hj, ha⟩ := hrel
        have HS : Hid (∀ j y, j < q → o.datas[j]? = some y → rdataOk y) := hs
        have Jr : Hid (J wr) := hj
        have Ar : Hid (Apart (Win B W.heap.size) W wr) := ha
        clear hs hj ha
        by_cases hlt2 : q < D
        · have hlt2' : (q : Int) < D := by omega
          obtain ⟨b, off, ⟨xn, xb, xa, xf, xz, lb, lr⟩, rfl, -, hx, vb, vr, x0, x1, x2, x3, x4, x5, x6, wb, wr', hsz⟩ := DX.out q hlt2
          dsimp only at x0 x1 x2 x3 x4 x5 x6 wb wr' hsz
          obtain ⟨ca, cc, rfl, -, -, -⟩ := LstA.open (id wb.1)
          obtain ⟨ra, rc, rfl, -, -, -⟩ := LstA.open (id wr')
          have HX : Hid (o.datas[q]? = some ⟨xn, xb, xa, xf, xz, lb, lr⟩) := hx
          have KR := KF.out _ Ar.out
          have U3 := keep_alloc8 (Below.refl _ wr) (.cells #[.string xn, .int .i64 xb, .int .i64 xa, .bool xf, .int .i64 xz, .slice ca lb.length cc, .slice ra lr.length rc] 48)
          have hkc := KR.1.trans (KC.of_below U3)
          have FC0 := (data_any (A := A) (d := ⟨xn, xb, xa, xf, xz, lb, lr⟩) ⟨_, _, rfl, wb.kc hkc, wr'.kc hkc, hsz⟩).mono fun e w' h => And.intro h.1 (bnext U3 h.2)
          replace x0 := KR.1 _ _ x0
          replace x1 := KR.1 _ _ x1
          replace x2 := KR.1 _ _ x2
          replace x3 := KR.1 _ _ x3
          replace x4 := KR.1 _ _ x4
          replace x5 := KR.1 _ _ x5
          replace x6 := KR.1 _ _ x6
          by_cases he : rdataOk ⟨xn, xb, xa, xf, xz, lb, lr⟩
          · rw [if_pos he] at FC0
            have FC : Hid (Calls Tryz.prog 17 #[.agg #[.string xn, .int .i64 xb, .int .i64 xa, .bool xf, .int .i64 xz, .slice ca lb.length cc, .slice ra lr.length rc]] (wr.alloc (.cells #[.string xn, .int .i64 xb, .int .i64 xa, .bool xf, .int .i64 xz, .slice ca lb.length cc, .slice ra lr.length rc] 48)) fun e w' => e = .returned (.int .i64 0) ∧ Below wr.heap.size wr w') := FC0
            have NX : Hid (∀ j y, j < q + 1 → o.datas[j]? = some y → rdataOk y) := upto_next HS.out HX.out he
            clear hx wb wr' hsz KR U3 hkc FC0 he
            gi_wp2_with (refine ⟨trivial, rfl, ?_⟩; gi_at_call 17; refine (callsIn_wide.2 FC.out).mono ?_; rintro e v3 ⟨rfl, hb3⟩; have Jv3 := Hid.mk0 (HJ.out _ _ Jr.out hb3); have Av3 := Hid.mk0 (apart_step Ar.out hb3); clear hb3; obtain ⟨fn, tmps, assign, body, hy, hR⟩ := Y0.out v3 Jv3.out)
            refine ⟨rfl, hR.mono ?_⟩
            rintro e v4 ⟨rfl, hj, ha⟩
            have hj' : Hid (J v4 ∧ Apart (Win B W.heap.size) W v4) := ⟨hj, apart_next Av3.out ha⟩
            clear hj ha hy hR
            gi_wp2
            go_roundw
            case rel => exact ⟨q + 1, by omega, by go_num, NX.out, hj'.out.1, hj'.out.2⟩
            case measure => simp [intOf]; omega
          · rw [if_neg he] at FC0
            have FC : Hid (Calls Tryz.prog 17 #[.agg #[.string xn, .int .i64 xb, .int .i64 xa, .bool xf, .int .i64 xz, .slice ca lb.length cc, .slice ra lr.length rc]] (wr.alloc (.cells #[.string xn, .int .i64 xb, .int .i64 xa, .bool xf, .int .i64 xz, .slice ca lb.length cc, .slice ra lr.length rc] 48)) fun e w' => e = .returned (.int .i64 4) ∧ Below wr.heap.size wr w') := FC0
            have E : Hid (objE o = 4) := objE_data P1.out P2.out (List.mem_of_getElem? HX.out) he
            clear hx wb wr' hsz KR U3 hkc FC0 he
            gi_wp2_with (refine ⟨trivial, rfl, ?_⟩; gi_at_call 17; refine (callsIn_wide.2 FC.out).mono ?_; rintro e v3 ⟨rfl, hb3⟩; obtain ⟨fn, tmps, assign, body, hy, hR⟩ := YX.out 4 v3 (by decide) (HJ.out _ _ Jr.out hb3))
            refine ⟨rfl, hR.mono ?_⟩
            rintro e W' ⟨rfl, hx⟩
            gi_wp2
            exact bodyPost_ret (results_none rfl _ _ _) rfl ⟨⟨_, rfl⟩, .inr ⟨by rw [E.out]; decide, by rw [E.out]; exact hx⟩⟩
        · obtain rfl : q = D := by omega
          have P3 : Hid (∀ d ∈ o.datas, rdataOk d) := upto_all (by rw [EF.out.2]; exact HS.out)
          clear HS
          have KR := KF.out _ Ar.out
          have y0 := KR.2.2.1 0 _ rfl
          have y1 := KR.2.2.1 1 _ rfl
          have y2 := KR.2.2.1 2 _ rfl
          obtain ⟨c9, I9⟩ := bool_of (namesOk o)
          have NM : Hid (Calls Tryz.prog 50 #[.agg #[.slice fa k fc, .slice da q dc, .slice na N nc]] wr fun e w' => e = .returned (.bool c9) ∧ Below wr.heap.size wr w') := (named_obj (HO.out.kc KR.1) (few_of_ok P1.out)).mono fun e w' h => ⟨says_is h.1 I9.out, h.2⟩
          clear KR
          cases c9
          · have E : Hid (objE o = 4) := objE_names P1.out P2.out P3.out fun h => by have := I9.out.2 h; cases this
            gi_wp2_with (first
              | (refine ⟨trivial, rfl, ?_⟩; gi_at_call 50; refine (callsIn_wide.2 NM.out).mono ?_; rintro e v3 ⟨rfl, hb3⟩; obtain ⟨fn, tmps, assign, body, hy, hR⟩ := YX.out 4 v3 (by decide) (HJ.out _ _ Jr.out hb3))
              | (refine ⟨trivial, rfl, ?_⟩; gi_at_call 36; refine (callsIn_wide.2 (need_f _ _)).mono ?_; rintro e wn ⟨rfl, hwn⟩; obtain rfl := hwn.symm))
            refine ⟨rfl, hR.mono ?_⟩
            rintro e W' ⟨rfl, hx⟩
            gi_wp2
            go_end0
            exact ⟨⟨_, rfl⟩, .inr ⟨by rw [E.out]; decide, by rw [E.out]; exact hx⟩⟩
          · have E : Hid (objE o = 0) := objE_ok P1.out P2.out P3.out (I9.out.1 rfl)
            gi_wp2_with (first
              | (refine ⟨trivial, rfl, ?_⟩; gi_at_call 50; refine (callsIn_wide.2 NM.out).mono ?_; rintro e v3 ⟨rfl, hb3⟩; obtain ⟨fn, tmps, assign, body, hy, hR⟩ := Y0.out v3 (HJ.out _ _ Jr.out hb3))
              | (refine ⟨trivial, rfl, ?_⟩; gi_at_call 36; refine (callsIn_wide.2 (need_t _ _)).mono ?_; rintro e wn ⟨rfl, hwn⟩; obtain rfl := hwn.symm))
            refine ⟨rfl, hR.mono ?_⟩
            rintro e W' ⟨rfl, hj, ha⟩
            gi_wp2
            go_end0
            exact ⟨⟨_, rfl⟩, .inl ⟨E.out, hj⟩⟩
set_option maxRecDepth 100000 in
theorem ofobj_any (fa da na : Option Addr) (F fc D dc N nc : Nat) (w : World) :
    Calls Tryz.prog 22 #[.agg #[.slice fa F fc, .slice da D dc, .slice na N nc]] w fun e w' => e = .returned (.func (.func 48) #[] #[.pointer (some ⟨w.heap.size, 0, none⟩)]) ∧ w' = w.alloc (.cells #[.slice fa F fc, .slice da D dc, .slice na N nc] 34) := by
  go_enter Tryz.func22, Tryz.ntmps22
  go_wp2
  go_ret
  exact ⟨rfl, rfl⟩
set_option maxRecDepth 100000 in
set_option maxHeartbeats 1000000 in
theorem obj_any {A : Nat → Prop} {w : World} {u : Value} {o : ObjM} (h : IsObj A w u o) (hT : Tab w) :
    Calls Tryz.prog 11 #[u] w fun e w' => e = .returned (.int .i64 (objE o)) ∧ Below w.heap.size w w' := by
  have HI := h
  obtain ⟨fa, fc, da, dc, na, nc, rfl⟩ := h.open
  have eg : ∀ args w, (callFunc 48 args).run Tryz.prog w = .ok (.enter 48 args) w := enters_of Tryz.func48 (by kernel_rfl) rfl
  generalize o.funcs.length = F at *
  generalize o.datas.length = D at *
  generalize o.notes.length = N at *
  have F1 := (first_told eg (tells_obj (w := ((w.alloc (.cells #[.slice fa F fc, .slice da D dc, .slice na N nc] 34)).alloc (.cells #[.slice fa F fc, .slice da D dc, .slice na N nc] 34)).alloc (.cells #[.int .i64 0] 27)) (w0 := w) (B := ((w.alloc (.cells #[.slice fa F fc, .slice da D dc, .slice na N nc] 34)).alloc (.cells #[.slice fa F fc, .slice da D dc, .slice na N nc] 34)).heap.size) (ob := (w.alloc (.cells #[.slice fa F fc, .slice da D dc, .slice na N nc] 34)).heap.size) (o := o) (by simp) (by simp) HI (by simp; omega)
    (KC.of_below (keep_alloc8 (keep_alloc8 (keep_alloc8 (Below.refl _ _) _) _) _)) (hT.later (keep_alloc8 (keep_alloc8 (keep_alloc8 (Below.refl _ _) _) _) _))
    (fun cs e => by cases e; exact (XAt.new (w.alloc (.cells #[.slice fa F fc, .slice da D dc, .slice na N nc] 34)) #[.slice fa F fc, .slice da D dc, .slice na N nc] 34).later (by simp) (keep_alloc8 (Below.refl _ _) _)))).mono fun e w' h => And.intro h.1 (bnext (keep_alloc8 (keep_alloc8 (Below.refl _ w) (.cells #[.slice fa F fc, .slice da D dc, .slice na N nc] 34)) (.cells #[.slice fa F fc, .slice da D dc, .slice na N nc] 34)) h.2)
  rw [World.size_alloc] at F1
  generalize objE o = r at F1 ⊢
  have F2 : Hid (Calls Tryz.prog 18 #[.func (.func 48) #[] #[.pointer (some ⟨w.heap.size + 1, 0, none⟩)]] ((w.alloc (.cells #[.slice fa F fc, .slice da D dc, .slice na N nc] 34)).alloc (.cells #[.slice fa F fc, .slice da D dc, .slice na N nc] 34)) fun e w' => e = .returned (.int .i64 r) ∧ Below w.heap.size w w') := F1
  have O2 : Hid (Calls Tryz.prog 22 #[.agg #[.slice fa F fc, .slice da D dc, .slice na N nc]] (w.alloc (.cells #[.slice fa F fc, .slice da D dc, .slice na N nc] 34)) fun e w' => e = .returned (.func (.func 48) #[] #[.pointer (some ⟨w.heap.size + 1, 0, none⟩)]) ∧ w' = (w.alloc (.cells #[.slice fa F fc, .slice da D dc, .slice na N nc] 34)).alloc (.cells #[.slice fa F fc, .slice da D dc, .slice na N nc] 34)) := by
    have h := ofobj_any fa da na F fc D dc N nc (w.alloc (.cells #[.slice fa F fc, .slice da D dc, .slice na N nc] 34))
    rwa [World.size_alloc] at h
  clear HI h hT F1 eg
  go_enter Tryz.func11, Tryz.ntmps11
  go_wp2_with (first
    | (go_at_call 22; refine O2.out.mono ?_; rintro e w1 ⟨rfl, rfl⟩)
    | (go_at_call 18; refine F2.out.mono ?_; rintro e w2 ⟨rfl, hb2⟩))
  go_ret
  exact ⟨rfl, hb2⟩
open Go.ChangeShapes Go.WideShapes Go.ChangeAt Go.RowKit Go.Shelf
set_option linter.unusedVariables false
set_option linter.unusedSimpArgs false
def fA : FuncM := ⟨⟨#[102]⟩, 1, [352321536], []⟩
def gA' : FuncM := ⟨⟨#[102]⟩, 1, [318767104], []⟩
def dA : DataM := ⟨⟨#[100]⟩, 4, 4, false, 4, [], []⟩
theorem one_get {x y : Int} {k : Nat} (h : ([x] : List Int)[k]? = some y) : k = 0 ∧ y = x := by
  cases k with
  | zero => simp at h; exact ⟨rfl, h.symm⟩
  | succ k => simp at h
theorem fA_e : fnE fA = 0 := by
  refine fnE_ok ⟨.inl rfl, by decide⟩ (fun x hx => ?_) ⟨fun i r hi => by simp [fA] at hi, fun k x hk hx h => ?_⟩ (fun k x hk hx h => ?_) (fun x hx => ?_)
  · simp [fA] at hx; subst hx; decide
  · obtain ⟨-, rfl⟩ := one_get hx; exact absurd h (by decide)
  · obtain ⟨-, rfl⟩ := one_get hx; exact absurd h (by decide)
  · obtain ⟨-, rfl⟩ := one_get hx; exact .inr (by decide)
theorem gA_e : fnE gA' = 7 := by
  refine fnE_inside ⟨.inl rfl, by decide⟩ (fun x hx => ?_) ⟨fun i r hi => by simp [gA'] at hi, fun k x hk hx h => ?_⟩ (fun h => ?_)
  · simp [gA'] at hx; subst hx; decide
  · obtain ⟨-, rfl⟩ := one_get hx; exact absurd h (by decide)
  · have := h 0 318767104 (by decide) rfl (by decide) rfl
    exact absurd this (by decide)
theorem dA_ok : rdataOk dA := ⟨by decide, by decide, by decide, fun _ => ⟨rfl, rfl, rfl⟩, fun i r hi => by simp [dA] at hi⟩
def oA : ObjM := ⟨[fA], [dA], []⟩
def oB : ObjM := ⟨[fA, fA], [], []⟩
theorem fA_fok : funcOk fA := ⟨by decide, by decide, ⟨by decide, fun x hx => by simp [fA] at hx; subst hx; decide⟩, ⟨by decide, fun r hr => by simp [fA] at hr⟩⟩
theorem dA_dok : dataOk dA := ⟨by decide, by decide, by decide, by decide, ⟨by decide, fun x hx => by simp [dA] at hx⟩, ⟨by decide, fun r hr => by simp [dA] at hr⟩⟩
theorem oA_e : objE oA = 0 := objE_ok ⟨⟨by decide, fun x hx => by simp [oA] at hx; subst hx; exact fA_fok⟩, ⟨by decide, fun x hx => by simp [oA] at hx; subst hx; exact dA_dok⟩, ⟨by decide, fun x hx => by simp [oA] at hx⟩⟩
  (firstE_all fun x hx => by simp [oA] at hx; subst hx; exact fA_e) (fun x hx => by simp [oA] at hx; subst hx; exact dA_ok) ⟨by simp [namesL, oA, fA, dA], fun x hx => by simp [oA] at hx⟩
theorem oB_e : objE oB = 4 := objE_names ⟨⟨by decide, fun x hx => by simp [oB] at hx; subst hx; exact fA_fok⟩, ⟨by decide, fun x hx => by simp [oB] at hx⟩, ⟨by decide, fun x hx => by simp [oB] at hx⟩⟩
  (firstE_all fun x hx => by simp [oB] at hx; subst hx; exact fA_e) (fun x hx => by simp [oB] at hx) fun h => by have := h.1; simp [namesL, oB] at this
abbrev fCs (b : Nat) : Array Value := #[.string ⟨#[102]⟩, .int .i64 1, .slice (some ⟨b, 0, none⟩) 1 1, .slice none 0 0]
abbrev dCs : Array Value := #[.string ⟨#[100]⟩, .int .i64 4, .int .i64 4, .bool false, .int .i64 4, .slice none 0 0, .slice none 0 0]
theorem words_one1 {X : World} {b : Nat} {x : Int} (h : X.cell? ⟨b, 0, none⟩ = some (.int .u32 x)) (h0 : 0 ≤ x) (h1 : x < 4294967296) : IsWords (fun _ => True) X (.slice (some ⟨b, 0, none⟩) 1 1) [x] :=
  ⟨⟨_, _, rfl, ⟨⟨Nat.le_refl _, fun e => by cases e⟩, by decide⟩, fun _ _ => trivial, .inr ⟨b, 0, rfl, fun i y hi => by
    obtain ⟨rfl, rfl⟩ := one_get hi
    exact h⟩⟩, fun y hy => by simp at hy; subst hy; exact ⟨h0, h1⟩⟩
theorem fA_v {X : World} {b : Nat} (h : X.cell? ⟨b, 0, none⟩ = some (.int .u32 352321536)) : FuncV (fun _ => True) X (.agg (fCs b)) fA := ⟨_, _, rfl, words_one1 h (by decide) (by decide), LstA.nil, by decide⟩
theorem gA_v {X : World} {b : Nat} (h : X.cell? ⟨b, 0, none⟩ = some (.int .u32 318767104)) : FuncV (fun _ => True) X (.agg (fCs b)) gA' := ⟨_, _, rfl, words_one1 h (by decide) (by decide), LstA.nil, by decide⟩
theorem dA_v (X : World) : DataV (fun _ => True) X (.agg dCs) dA := ⟨_, _, rfl, ⟨LstA.nil, fun _ h => by cases h⟩, LstA.nil, by decide⟩
theorem nil_b (X : World) : IsBytes (fun _ => True) X (.slice none 0 0) [] := ⟨LstA.nil, fun _ h => by cases h⟩
theorem oA_v {X : World} {b p q : Nat} (h : X.cell? ⟨b, 0, none⟩ = some (.int .u32 352321536)) (hp : XAt X p (fCs b).toList) (hq : XAt X q dCs.toList) :
    IsObj (fun _ => True) X (.agg #[.slice (some ⟨p, 0, none⟩) 1 1, .slice (some ⟨q, 0, none⟩) 1 1, .slice none 0 0]) oA := by
  refine ⟨_, _, _, rfl, ⟨_, _, rfl, ⟨⟨Nat.le_refl _, fun e => by cases e⟩, by decide⟩, fun _ _ => trivial, .inr ⟨p, 0, rfl, fun i y hi => ?_⟩⟩, ⟨_, _, rfl, ⟨⟨Nat.le_refl _, fun e => by cases e⟩, by decide⟩, fun _ _ => trivial, .inr ⟨q, 0, rfl, fun i y hi => ?_⟩⟩, LstA.nil⟩
  · cases i with
    | zero => simp [oA] at hi; subst hi; exact ⟨_, _, hp.1 0 _ rfl, hp.1 1 _ rfl, hp.1 2 _ rfl, hp.1 3 _ rfl, words_one1 h (by decide) (by decide), LstA.nil, by decide⟩
    | succ i => simp [oA] at hi
  · cases i with
    | zero => simp [oA] at hi; subst hi; exact ⟨_, _, hq.1 0 _ rfl, hq.1 1 _ rfl, hq.1 2 _ rfl, hq.1 3 _ rfl, hq.1 4 _ rfl, hq.1 5 _ rfl, hq.1 6 _ rfl, nil_b X, LstA.nil, by decide⟩
    | succ i => simp [oA] at hi
theorem oB_v {X : World} {b p : Nat} (h : X.cell? ⟨b, 0, none⟩ = some (.int .u32 352321536)) (hp : XAt X p ((fCs b).toList ++ (fCs b).toList)) :
    IsObj (fun _ => True) X (.agg #[.slice (some ⟨p, 0, none⟩) 2 2, .slice none 0 0, .slice none 0 0]) oB := by
  refine ⟨_, _, _, rfl, ⟨_, _, rfl, ⟨⟨Nat.le_refl _, fun e => by cases e⟩, by decide⟩, fun _ _ => trivial, .inr ⟨p, 0, rfl, fun i y hi => ?_⟩⟩, LstA.nil, LstA.nil⟩
  cases i with
  | zero => simp [oB] at hi; subst hi; exact ⟨_, _, hp.1 0 _ rfl, hp.1 1 _ rfl, hp.1 2 _ rfl, hp.1 3 _ rfl, words_one1 h (by decide) (by decide), LstA.nil, by decide⟩
  | succ i =>
    cases i with
    | zero => simp [oB] at hi; subst hi; exact ⟨_, _, hp.1 4 _ rfl, hp.1 5 _ rfl, hp.1 6 _ rfl, hp.1 7 _ rfl, words_one1 h (by decide) (by decide), LstA.nil, by decide⟩
    | succ i => simp [oB] at hi
theorem two_at (X : World) (c1 c2 : Array Value) (t1 t2 : TypeId) : XAt ((X.alloc (.cells c1 t1)).alloc (.cells c2 t2)) X.heap.size c1.toList ∧ XAt ((X.alloc (.cells c1 t1)).alloc (.cells c2 t2)) (X.heap.size + 1) c2.toList ∧ Below X.heap.size X ((X.alloc (.cells c1 t1)).alloc (.cells c2 t2)) := by
  have h := XAt.new (X.alloc (.cells c1 t1)) c2 t2
  rw [World.size_alloc] at h
  exact ⟨(XAt.new X c1 t1).later (by simp) (keep_alloc8 (Below.refl _ _) _), h, keep_alloc8 (keep_alloc8 (Below.refl _ _) _) _⟩
set_option maxRecDepth 100000 in
set_option maxHeartbeats 4000000 in
theorem awake10 (w : World) (hT : Tab w) : Calls Tryz.prog 7 #[] w fun e w' => e = .returned (.bool true) ∧ Below w.heap.size w w' := by
  obtain ⟨w5, e5⟩ : ∃ w5, w5 = ((((w.alloc (.cells #[.int .u32 352321536] 41)).alloc (.cells (fCs w.heap.size) 25)).alloc (.cells #[.int .u32 318767104] 41)).alloc (.cells (fCs (w.heap.size + 1 + 1)) 25)).alloc (.cells dCs 48) := ⟨_, rfl⟩
  have hs : w5.heap.size = w.heap.size + 5 := by rw [e5]; simp
  have B5 : Hid (Below w.heap.size w w5) := by rw [e5]; exact keep_alloc8 (keep_alloc8 (keep_alloc8 (keep_alloc8 (keep_alloc8 (Below.refl _ _) _) _) _) _) _
  have a0 := new_cell' w #[.int .u32 352321536] 41 0 _ rfl
  have a1 := XAt.new (w.alloc (.cells #[.int .u32 352321536] 41)) (fCs w.heap.size) 25
  have a2 := new_cell' ((w.alloc (.cells #[.int .u32 352321536] 41)).alloc (.cells (fCs w.heap.size) 25)) #[.int .u32 318767104] 41 0 _ rfl
  have a3 := XAt.new (((w.alloc (.cells #[.int .u32 352321536] 41)).alloc (.cells (fCs w.heap.size) 25)).alloc (.cells #[.int .u32 318767104] 41)) (fCs (w.heap.size + 1 + 1)) 25
  have a4 := XAt.new ((((w.alloc (.cells #[.int .u32 352321536] 41)).alloc (.cells (fCs w.heap.size) 25)).alloc (.cells #[.int .u32 318767104] 41)).alloc (.cells (fCs (w.heap.size + 1 + 1)) 25)) dCs 48
  simp only [World.size_alloc] at a1 a2 a3 a4
  have c0 : Hid (w5.cell? ⟨w.heap.size, 0, none⟩ = some (.int .u32 352321536)) := by rw [e5]; exact cell_any a0 (keep_alloc8 (keep_alloc8 (keep_alloc8 (keep_alloc8 (Below.refl _ _) _) _) _) _)
  have X1 : Hid (XAt w5 (w.heap.size + 1) (fCs w.heap.size).toList) := by rw [e5]; exact a1.later (by simp) (keep_alloc8 (keep_alloc8 (keep_alloc8 (Below.refl _ _) _) _) _)
  have c2 : Hid (w5.cell? ⟨w.heap.size + 1 + 1, 0, none⟩ = some (.int .u32 318767104)) := by rw [e5]; exact cell_any a2 (keep_alloc8 (keep_alloc8 (Below.refl _ _) _) _)
  have X3 : Hid (XAt w5 (w.heap.size + 1 + 1 + 1) (fCs (w.heap.size + 1 + 1)).toList) := by rw [e5]; exact a3.later (by simp) (keep_alloc8 (Below.refl _ _) _)
  have X4 : Hid (XAt w5 (w.heap.size + 1 + 1 + 1 + 1) dCs.toList) := by rw [e5]; exact a4
  clear a0 a1 a2 a3 a4
  have T5 : Hid (Tab w5) := hT.later B5.out
  have hF : ∀ X, Below w5.heap.size w5 X → Calls Tryz.prog 8 #[.agg (fCs w.heap.size)] X fun e w' => e = .returned (.int .i64 0) ∧ Below X.heap.size X w' := fun X hX => by
    have h := fun_any (fA_v (cell_any c0.out hX)) (by decide) (by decide) (T5.out.later hX)
    rwa [fA_e] at h
  have hG : ∀ X, Below w5.heap.size w5 X → Calls Tryz.prog 8 #[.agg (fCs (w.heap.size + 1 + 1))] X fun e w' => e = .returned (.int .i64 7) ∧ Below X.heap.size X w' := fun X hX => by
    have h := fun_any (gA_v (cell_any c2.out hX)) (by decide) (by decide) (T5.out.later hX)
    rwa [gA_e] at h
  have hD : ∀ X, Calls Tryz.prog 17 #[.agg dCs] X fun e w' => e = .returned (.int .i64 0) ∧ Below X.heap.size X w' := fun X => by
    have h := data_any (dA_v X)
    rwa [if_pos dA_ok] at h
  have hO : ∀ X p q, Below w5.heap.size w5 X → XAt X p (fCs w.heap.size).toList → XAt X q dCs.toList → Calls Tryz.prog 11 #[.agg #[.slice (some ⟨p, 0, none⟩) 1 1, .slice (some ⟨q, 0, none⟩) 1 1, .slice none 0 0]] X fun e w' => e = .returned (.int .i64 0) ∧ Below X.heap.size X w' := fun X p q hX hp hq => by
    have h := obj_any (oA_v (cell_any c0.out hX) hp hq) (T5.out.later hX)
    rwa [oA_e] at h
  have hP : ∀ X p, Below w5.heap.size w5 X → XAt X p ((fCs w.heap.size).toList ++ (fCs w.heap.size).toList) → Calls Tryz.prog 11 #[.agg #[.slice (some ⟨p, 0, none⟩) 2 2, .slice none 0 0, .slice none 0 0]] X fun e w' => e = .returned (.int .i64 4) ∧ Below X.heap.size X w' := fun X p hX hp => by
    have h := obj_any (oB_v (cell_any c0.out hX) hp) (T5.out.later hX)
    rwa [oB_e] at h
  have HF : Hid (∀ X, Below w5.heap.size w5 X → Calls Tryz.prog 8 #[.agg (fCs w.heap.size)] X fun e w' => e = .returned (.int .i64 0) ∧ Below X.heap.size X w') := hF
  have HG : Hid (∀ X, Below w5.heap.size w5 X → Calls Tryz.prog 8 #[.agg (fCs (w.heap.size + 1 + 1))] X fun e w' => e = .returned (.int .i64 7) ∧ Below X.heap.size X w') := hG
  have HD : Hid (∀ X, Calls Tryz.prog 17 #[.agg dCs] X fun e w' => e = .returned (.int .i64 0) ∧ Below X.heap.size X w') := hD
  have HO : Hid (∀ X p q, Below w5.heap.size w5 X → XAt X p (fCs w.heap.size).toList → XAt X q dCs.toList → Calls Tryz.prog 11 #[.agg #[.slice (some ⟨p, 0, none⟩) 1 1, .slice (some ⟨q, 0, none⟩) 1 1, .slice none 0 0]] X fun e w' => e = .returned (.int .i64 0) ∧ Below X.heap.size X w') := hO
  have HP : Hid (∀ X p, Below w5.heap.size w5 X → XAt X p ((fCs w.heap.size).toList ++ (fCs w.heap.size).toList) → Calls Tryz.prog 11 #[.agg #[.slice (some ⟨p, 0, none⟩) 2 2, .slice none 0 0, .slice none 0 0]] X fun e w' => e = .returned (.int .i64 4) ∧ Below X.heap.size X w') := hP
  have HS : Hid (w.heap.size + 5 = w5.heap.size) := hs.symm
  clear hF hG hD hO hP hT
  go_enter Tryz.func7, Tryz.ntmps7
  go_upto_region 4 with fail
  rw [← e5]
  clear e5 hs
  have f0 := X1.out.1 0 _ rfl
  have f1 := X1.out.1 1 _ rfl
  have f2 := X1.out.1 2 _ rfl
  have f3 := X1.out.1 3 _ rfl
  go_wp2_with (first
    | (have q := K9; go_at_call 11; refine (HP.out _ _ (bnext K9.out (keep_alloc8 (Below.refl _ _) _)) (XAt.new _ _ _)).mono ?_; rintro e w10 ⟨rfl, b10⟩; have K10 := Hid.mk0 (bnext (bnext K9.out (keep_alloc8 (Below.refl _ _) _)) b10))
    | (go_at_call 11; refine (HO.out _ _ _ (bnext K8.out (two_at _ _ _ _ _).2.2) (two_at _ _ _ _ _).1 (two_at _ _ _ _ _).2.1).mono ?_; rintro e w9 ⟨rfl, b9⟩; have K9 := Hid.mk0 (bnext (bnext K8.out (two_at _ _ _ _ _).2.2) b9); clear f0 f1 f2 f3; have f0 := (X1.out.later (by have := HS.out; omega) K9.out).1 0 _ rfl; have f1 := (X1.out.later (by have := HS.out; omega) K9.out).1 1 _ rfl; have f2 := (X1.out.later (by have := HS.out; omega) K9.out).1 2 _ rfl; have f3 := (X1.out.later (by have := HS.out; omega) K9.out).1 3 _ rfl; clear b9 d0 d1 d2 d3 d4 d5 d6)
    | (go_at_call 17; refine (HD.out _).mono ?_; rintro e w8 ⟨rfl, b8⟩; have K8 := Hid.mk0 (bnext K7.out b8); have z8 : w.heap.size + 1 + 1 + 1 + 1 < w8.heap.size := (by have := HS.out; have := K8.out.size; omega); have z8' : w.heap.size + 1 < w8.heap.size := (by omega); have f0 := (X1.out.later (by have := HS.out; omega) K8.out).1 0 _ rfl; have f1 := (X1.out.later (by have := HS.out; omega) K8.out).1 1 _ rfl; have f2 := (X1.out.later (by have := HS.out; omega) K8.out).1 2 _ rfl; have f3 := (X1.out.later (by have := HS.out; omega) K8.out).1 3 _ rfl; clear d0 d1 d2 d3 d4 d5 d6; have d0 := (X4.out.later (by have := HS.out; omega) K8.out).1 0 _ rfl; have d1 := (X4.out.later (by have := HS.out; omega) K8.out).1 1 _ rfl; have d2 := (X4.out.later (by have := HS.out; omega) K8.out).1 2 _ rfl; have d3 := (X4.out.later (by have := HS.out; omega) K8.out).1 3 _ rfl; have d4 := (X4.out.later (by have := HS.out; omega) K8.out).1 4 _ rfl; have d5 := (X4.out.later (by have := HS.out; omega) K8.out).1 5 _ rfl; have d6 := (X4.out.later (by have := HS.out; omega) K8.out).1 6 _ rfl; clear b8)
    | (have q := K6; go_at_call 8; refine (HG.out _ K6.out).mono ?_; rintro e w7 ⟨rfl, b7⟩; have K7 := Hid.mk0 (bnext K6.out b7); have d0 := (X4.out.later (by have := HS.out; omega) K7.out).1 0 _ rfl; have d1 := (X4.out.later (by have := HS.out; omega) K7.out).1 1 _ rfl; have d2 := (X4.out.later (by have := HS.out; omega) K7.out).1 2 _ rfl; have d3 := (X4.out.later (by have := HS.out; omega) K7.out).1 3 _ rfl; have d4 := (X4.out.later (by have := HS.out; omega) K7.out).1 4 _ rfl; have d5 := (X4.out.later (by have := HS.out; omega) K7.out).1 5 _ rfl; have d6 := (X4.out.later (by have := HS.out; omega) K7.out).1 6 _ rfl; clear b7 g0 g1 g2 g3)
    | (go_at_call 8; refine (HF.out _ (Below.refl _ _)).mono ?_; rintro e w6 ⟨rfl, b6⟩; have K6 := Hid.mk0 b6; have g0 := (X3.out.later (by have := HS.out; omega) K6.out).1 0 _ rfl; have g1 := (X3.out.later (by have := HS.out; omega) K6.out).1 1 _ rfl; have g2 := (X3.out.later (by have := HS.out; omega) K6.out).1 2 _ rfl; have g3 := (X3.out.later (by have := HS.out; omega) K6.out).1 3 _ rfl; clear b6 f0 f1 f2 f3))
  go_ret
  exact ⟨rfl, bnext B5.out K10.out⟩
end Go.Proofs.YtnejpldbokodaaaGreatDoor
