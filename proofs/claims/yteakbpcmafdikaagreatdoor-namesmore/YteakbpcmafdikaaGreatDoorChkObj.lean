/- What is told of an object, and what check.Object answers. -/
import Derived.Test.YteakbpcmafdikaaGreatDoorNmFun
import Derived.Test.YteakbpcmafdikaaGreatDoorChkName
import Derived.Test.YteakbpcmafdikaaGreatDoorObjPt2
namespace Go.Proofs.YteakbpcmafdikaaGreatDoor
open Go.ChangeShapes Go.WideShapes Go.ChangeAt Go.RowKit Go.Shelf
set_option linter.unusedVariables false
set_option linter.unusedSimpArgs false
theorem few_of_ok {o : ObjM} (h : objOk o) : fewO o := by
  obtain ⟨⟨f1, f2⟩, ⟨d1, d2⟩, ⟨n1, -⟩⟩ := h
  refine ⟨⟨by omega, by omega, by omega⟩, fun f hf => ?_, fun d hd => ?_⟩
  · obtain ⟨q1, -, q2, q3⟩ := f2 f hf
    have := named_len q1
    exact ⟨by have := q2.1; omega, by have := q3.1; omega, by omega⟩
  · obtain ⟨q1, -, -, -, q2, q3⟩ := d2 d hd
    have := named_len q1
    exact ⟨by have := q2.1; omega, by have := q3.1; omega, by omega⟩
/-- What object.Write answers, its error. -/
theorem write_err {A : Nat → Prop} {w : World} {v : Value} {p : ObjM} (h : IsObj A w v p) (c : Bool) (hc : c = true ↔ objOk p) :
    Calls Tryz.prog 65 #[v] w fun e w' => ∃ a n k, e = .returned (.tuple #[.slice a n k, .int .i64 (if c = true then 0 else 4)]) ∧ Below w.heap.size w w' := by
  refine (write_all h).mono ?_
  rintro e w' ⟨⟨hok, v', rfl, ho⟩ | ⟨hok, a, k, rfl⟩, hb⟩
  · obtain ⟨a, n, k, rfl⟩ : ∃ a n k, v' = .slice a n k := by
      rcases ho.2 with ⟨rfl, _⟩ | ⟨g, cap, cur, rfl, _⟩
      · exact ⟨_, _, _, rfl⟩
      · exact ⟨_, _, _, rfl⟩
    exact ⟨a, n, k, by rw [if_pos (hc.2 hok)], hb⟩
  · exact ⟨a, 0, k, by rw [if_neg fun e => hok (hc.1 e)], hb⟩
set_option maxRecDepth 100000 in
set_option maxHeartbeats 8000000 in
theorem tells_obj {w w0 : World} {B ob : Nat} {o : ObjM} {u : Value} {A : Nat → Prop} (hB : B ≤ w.heap.size) (hob : ob < B) (hO : IsObj A w0 u o) (hw0 : w0.heap.size ≤ B) (hK : KC w0 w) (hT : Tab w)
    (hX : ∀ cs, u = .agg cs → XAt w ob cs.toList) :
    Tells Tryz.prog 64 #[.pointer (some ⟨ob, 0, none⟩)] (objE o) B w := by
  intro l J Jx W hW hJ hJx hY0 hYx h0
  have HO : Hid (IsObj A w0 u o) := hO
  obtain ⟨vf, vd, vn, rfl, hf, hd, hn⟩ := hO
  obtain ⟨fa, fc, rfl, -, -, fx⟩ := LstA.open hf
  obtain ⟨da, dc, rfl, -, -, dx⟩ := LstA.open hd
  obtain ⟨na, nc, rfl, -, -, nx⟩ := LstA.open hn
  have hx0 := hX _ rfl
  obtain ⟨F, eF⟩ : ∃ F, o.funcs.length = F := ⟨_, rfl⟩
  obtain ⟨D, eD⟩ : ∃ D, o.datas.length = D := ⟨_, rfl⟩
  obtain ⟨N, eN⟩ : ∃ N, o.notes.length = N := ⟨_, rfl⟩
  rw [eF, eD, eN] at HO hx0
  rw [eF] at fx
  rw [eD] at dx
  have EF : Hid (o.funcs.length = F ∧ o.datas.length = D) := ⟨eF, eD⟩
  have FX : Hid (∀ k, k < F → ∃ b off x, fa = some ⟨b, off, none⟩ ∧ A b ∧ o.funcs[k]? = some x ∧ FuncAt A w0 b (off + k * 4) x) := fx
  have DX : Hid (∀ k, k < D → ∃ b off x, da = some ⟨b, off, none⟩ ∧ A b ∧ o.datas[k]? = some x ∧ DataAt A w0 b (off + k * 7) x) := dx
  have HJ : Hid (∀ X Y, J X → Below X.heap.size X Y → J Y) := hJ
  have Y0 : Hid (∀ W1, J W1 → YieldAt Fence.wide 0 Tryz.prog l #[.int .i64 0] W1 fun e W' => e = .returned (.bool true) ∧ J W' ∧ Apart (Win B W.heap.size) W1 W') := hY0
  have YX : Hid (∀ x W1, x ≠ 0 → J W1 → YieldAt Fence.wide 0 Tryz.prog l #[.int .i64 x] W1 fun e W' => e = .returned (.bool false) ∧ Jx x W') := hYx
  have J0 : Hid (J W) := h0
  have hBW : B ≤ W.heap.size := Nat.le_trans hB hW.size
  have KF : Hid (∀ X, Apart (Win B W.heap.size) W X → KC w0 X ∧ Tab X ∧ XAt X ob [.slice fa F fc, .slice da D dc, .slice na N nc]) := fun X hX =>
    ⟨(hK.trans (KC.of_below hW)).apart hw0 hX, tab_apart (hT.later hW) hX (by omega), (hx0.later (by omega) hW).apart (by omega) hX fun h => by have := h.1; omega⟩
  have hFb : (F : Int) ≤ 9223372036854775807 ∧ (D : Int) ≤ 9223372036854775807 := by
    obtain ⟨-, -, e1, m1, -, -⟩ := LstA.open hf
    obtain ⟨-, -, e2, m2, -, -⟩ := LstA.open hd
    unfold maxLen at m1 m2
    omega
  obtain ⟨hF9, hD9⟩ := hFb
  obtain ⟨c1, I1⟩ := bool_of (objOk o)
  have CW : Hid (∀ X, KC w0 X → Calls Tryz.prog 65 #[.agg #[.slice fa F fc, .slice da D dc, .slice na N nc]] X fun e w' => ∃ a n k, e = .returned (.tuple #[.slice a n k, .int .i64 (if c1 = true then 0 else 4)]) ∧ Below X.heap.size X w') := fun X hX => write_err (HO.out.kc hX) c1 I1.out
  have y0 := (KF.out _ (Apart.refl _ _)).2.2.1 0 _ rfl
  have y1 := (KF.out _ (Apart.refl _ _)).2.2.1 1 _ rfl
  have y2 := (KF.out _ (Apart.refl _ _)).2.2.1 2 _ rfl
  have CW0 := CW.out _ (KF.out _ (Apart.refl _ _)).1
  have CW1 : Hid (Calls Tryz.prog 65 #[.agg #[.slice fa F fc, .slice da D dc, .slice na N nc]] W fun e w' => ∃ a n k, e = .returned (.tuple #[.slice a n k, .int .i64 (if c1 = true then 0 else 4)]) ∧ Below W.heap.size W w') := CW0
  clear hJ hY0 hYx h0 hW hf hd hn fx dx nx hx0 hX hK hT eF eD eN CW CW0
  refine callsIn_of_wp Tryz.func64 rfl trivial ?_ rfl
  simp only [Tryz.ntmps64, List.size_toArray, List.length_cons, List.length_nil, Nat.reduceAdd, Nat.reduceSub, Array.replicate_succ, Array.replicate_zero, List.push_toArray, List.append_toArray, List.nil_append, List.cons_append]
  cases c1
  · have E : Hid (objE o = 4) := objE_may fun h => by have := I1.out.2 h; cases this
    have CW2 : Hid (Calls Tryz.prog 65 #[.agg #[.slice fa F fc, .slice da D dc, .slice na N nc]] W fun e w' => ∃ a n k, e = .returned (.tuple #[.slice a n k, .int .i64 4]) ∧ Below W.heap.size W w') := CW1.out
    gi_wp2_with (refine ⟨trivial, rfl, ?_⟩; gi_at_call 65; refine (callsIn_wide.2 CW2.out).mono ?_; rintro e v1 ⟨qa, qn, qk, rfl, hb1⟩; obtain ⟨fn, tmps, assign, body, hy, hR⟩ := YX.out 4 v1 (by decide) (HJ.out _ _ J0.out hb1))
    refine ⟨rfl, hR.mono ?_⟩
    rintro e W' ⟨rfl, hx⟩
    gi_wp2
    exact bodyPost_ret (results_none rfl _ _ _) rfl ⟨⟨_, rfl⟩, .inr ⟨by rw [E.out]; decide, by rw [E.out]; exact hx⟩⟩
  have P1 : Hid (objOk o) := I1.out.1 rfl
  have CW2 : Hid (Calls Tryz.prog 65 #[.agg #[.slice fa F fc, .slice da D dc, .slice na N nc]] W fun e w' => ∃ a n k, e = .returned (.tuple #[.slice a n k, .int .i64 0]) ∧ Below W.heap.size W w') := CW1.out
  gi_wp2_with (refine ⟨trivial, rfl, ?_⟩; gi_at_call 65; refine (callsIn_wide.2 CW2.out).mono ?_; rintro e v1 ⟨qa, qn, qk, rfl, hb1⟩; have Jv1 := Hid.mk0 (HJ.out _ _ J0.out hb1); have Av1 := Hid.mk0 (Apart.of_below (O := Win B W.heap.size) hb1); clear hb1; obtain ⟨fn, tmps, assign, body, hy, hR⟩ := Y0.out v1 Jv1.out)
  refine ⟨rfl, hR.mono ?_⟩
  rintro e v2 ⟨rfl, hj, ha⟩
  have Jv2 : Hid (J v2) := hj
  have Av2 : Hid (Apart (Win B W.heap.size) W v2) := apart_next Av1.out ha
  clear hj ha hy hR y0 y1 y2 CW1 CW2 Jv1 Av1 J0
  have y0 := (KF.out _ Av2.out).2.2.1 0 _ rfl
  gi_wp2
  clear y0
  gi_loopw [21] (fun i wr => ∃ k : Nat, k ≤ F ∧ i = .int .i64 k ∧ (∀ j y, j < k → o.funcs[j]? = some y → fnE y = 0) ∧ J wr ∧ Apart (Win B W.heap.size) W wr) (fun i _ => F - (intOf i).toNat)
  case atStart => exact ⟨0, Nat.zero_le _, rfl, (fun j y hj => by omega), Jv2.out, Av2.out⟩
  case round =>
    obtain ⟨k, hk, rfl, hs, hj, ha⟩ := hrel
    have HS : Hid (∀ j y, j < k → o.funcs[j]? = some y → fnE y = 0) := hs
    have Jr : Hid (J wr) := hj
    have Ar : Hid (Apart (Win B W.heap.size) W wr) := ha
    clear hs hj ha
    by_cases hlt : k < F
    · have hlt' : (k : Int) < F := by omega
      obtain ⟨b, off, ⟨xn, xb, lc, lr⟩, rfl, -, hx, vc, vr, x0, x1, x2, x3, wc, wr', hsz⟩ := FX.out k hlt
      dsimp only at x0 x1 x2 x3 wc wr' hsz
      obtain ⟨ca, cc, rfl, -, -, -⟩ := LstA.open (id wc.1)
      obtain ⟨ra, rc, rfl, -, -, -⟩ := LstA.open (id wr')
      have HX : Hid (o.funcs[k]? = some ⟨xn, xb, lc, lr⟩) := hx
      have FN : Hid (∀ X, KC w0 X → Tab X → Calls Tryz.prog 66 #[.agg #[.string xn, .int .i64 xb, .slice ca lc.length cc, .slice ra lr.length rc]] X fun e w' => e = .returned (.int .i64 (fnE ⟨xn, xb, lc, lr⟩)) ∧ Below X.heap.size X w') := fun X h1 h2 => by
        have hq := (few_of_ok P1.out).2.1 _ (List.mem_of_getElem? hx)
        exact fun_any (A := A) (f := ⟨xn, xb, lc, lr⟩) ⟨_, _, rfl, wc.kc h1, wr'.kc h1, hsz⟩ (by have := hq.1; omega) (by have := hq.2.1; omega) h2
      have KR := KF.out _ Ar.out
      replace x0 := KR.1 _ _ x0
      replace x1 := KR.1 _ _ x1
      replace x2 := KR.1 _ _ x2
      replace x3 := KR.1 _ _ x3
      have U3 := keep_alloc8 (Below.refl _ wr) (.cells #[.string xn, .int .i64 xb, .slice ca lc.length cc, .slice ra lr.length rc] 50)
      have FC : Hid (Calls Tryz.prog 66 #[.agg #[.string xn, .int .i64 xb, .slice ca lc.length cc, .slice ra lr.length rc]] (wr.alloc (.cells #[.string xn, .int .i64 xb, .slice ca lc.length cc, .slice ra lr.length rc] 50)) fun e w' => e = .returned (.int .i64 (fnE ⟨xn, xb, lc, lr⟩)) ∧ Below wr.heap.size wr w') := (FN.out _ (KR.1.trans (KC.of_below U3)) (KR.2.1.later U3)).mono fun e w' h => ⟨h.1, bnext U3 h.2⟩
      clear hx wc wr' hsz KR U3 FN
      by_cases he : fnE ⟨xn, xb, lc, lr⟩ = 0
      · rw [he] at FC
        have NX : Hid (∀ j y, j < k + 1 → o.funcs[j]? = some y → fnE y = 0) := upto_next HS.out HX.out he
        clear he
        gi_wp2_with (refine ⟨trivial, rfl, ?_⟩; gi_at_call 66; refine (callsIn_wide.2 FC.out).mono ?_; rintro e v3 ⟨rfl, hb3⟩; have Jv3 := Hid.mk0 (HJ.out _ _ Jr.out hb3); have Av3 := Hid.mk0 (apart_step Ar.out hb3); clear hb3; obtain ⟨fn, tmps, assign, body, hy, hR⟩ := Y0.out v3 Jv3.out)
        refine ⟨rfl, hR.mono ?_⟩
        rintro e v4 ⟨rfl, hj, ha⟩
        have hj' : Hid (J v4 ∧ Apart (Win B W.heap.size) W v4) := ⟨hj, apart_next Av3.out ha⟩
        clear hj ha hy hR
        gi_wp2
        go_roundw
        case rel => exact ⟨k + 1, by omega, by go_num, NX.out, hj'.out.1, hj'.out.2⟩
        case measure => simp [intOf]; omega
      · have E : Hid (objE o = fnE ⟨xn, xb, lc, lr⟩) := objE_func P1.out (firstE_at HS.out HX.out he) he
        have EN : Hid (fnE ⟨xn, xb, lc, lr⟩ ≠ 0) := he
        generalize fnE ⟨xn, xb, lc, lr⟩ = x at FC E EN
        clear he
        gi_wp2_with (refine ⟨trivial, rfl, ?_⟩; gi_at_call 66; refine (callsIn_wide.2 FC.out).mono ?_; rintro e v3 ⟨rfl, hb3⟩; obtain ⟨fn, tmps, assign, body, hy, hR⟩ := YX.out x v3 EN.out (HJ.out _ _ Jr.out hb3))
        refine ⟨rfl, hR.mono ?_⟩
        rintro e W' ⟨rfl, hx⟩
        gi_wp2
        exact bodyPost_ret (results_none rfl _ _ _) rfl ⟨⟨_, rfl⟩, .inr ⟨by rw [E.out]; exact EN.out, by rw [E.out]; exact hx⟩⟩
    · obtain rfl : k = F := by omega
      have P2 : Hid (firstE fnE o.funcs = 0) := firstE_all (upto_all (P := fun y => fnE y = 0) (by rw [EF.out.1]; exact HS.out))
      clear HS
      have y1 := (KF.out _ Ar.out).2.2.1 1 _ rfl
      gi_wp2
      clear y1
      generalize wr = wa at Jr Ar ⊢
      gi_loopw [34] (fun i wr => ∃ k : Nat, k ≤ D ∧ i = .int .i64 k ∧ (∀ j y, j < k → o.datas[j]? = some y → rdataOk y) ∧ J wr ∧ Apart (Win B W.heap.size) W wr) (fun i _ => D - (intOf i).toNat)
      case atStart => exact ⟨0, Nat.zero_le _, rfl, (fun j y hj => by omega), Jr.out, Ar.out⟩
      case round =>
        clear Jr Ar
        obtain ⟨q, hq, rfl, hs, hj, ha⟩ := hrel
        have HS : Hid (∀ j y, j < q → o.datas[j]? = some y → rdataOk y) := hs
        have Jr : Hid (J wr) := hj
        have Ar : Hid (Apart (Win B W.heap.size) W wr) := ha
        clear hs hj ha
        by_cases hlt2 : q < D
        · have hlt2' : (q : Int) < D := by omega
          obtain ⟨b, off, ⟨xn, xb, xa, xf, xz, lb, lr⟩, rfl, -, hx, vb, vr, x0, x1, x2, x3, x4, x5, x6, wb, wr', hsz⟩ := DX.out q hlt2
          dsimp only at x0 x1 x2 x3 x4 x5 x6 wb wr' hsz
          obtain ⟨ca, cc, rfl, -, -, -⟩ := LstA.open (id wb.1)
          obtain ⟨ra, rc, rfl, -, -, -⟩ := LstA.open (id wr')
          have HX : Hid (o.datas[q]? = some ⟨xn, xb, xa, xf, xz, lb, lr⟩) := hx
          have KR := KF.out _ Ar.out
          have U3 := keep_alloc8 (Below.refl _ wr) (.cells #[.string xn, .int .i64 xb, .int .i64 xa, .bool xf, .int .i64 xz, .slice ca lb.length cc, .slice ra lr.length rc] 52)
          have hkc := KR.1.trans (KC.of_below U3)
          have FC0 := (data_any (A := A) (d := ⟨xn, xb, xa, xf, xz, lb, lr⟩) ⟨_, _, rfl, wb.kc hkc, wr'.kc hkc, hsz⟩).mono fun e w' h => And.intro h.1 (bnext U3 h.2)
          replace x0 := KR.1 _ _ x0
          replace x1 := KR.1 _ _ x1
          replace x2 := KR.1 _ _ x2
          replace x3 := KR.1 _ _ x3
          replace x4 := KR.1 _ _ x4
          replace x5 := KR.1 _ _ x5
          replace x6 := KR.1 _ _ x6
          by_cases he : rdataOk ⟨xn, xb, xa, xf, xz, lb, lr⟩
          · rw [if_pos he] at FC0
            have FC : Hid (Calls Tryz.prog 67 #[.agg #[.string xn, .int .i64 xb, .int .i64 xa, .bool xf, .int .i64 xz, .slice ca lb.length cc, .slice ra lr.length rc]] (wr.alloc (.cells #[.string xn, .int .i64 xb, .int .i64 xa, .bool xf, .int .i64 xz, .slice ca lb.length cc, .slice ra lr.length rc] 52)) fun e w' => e = .returned (.int .i64 0) ∧ Below wr.heap.size wr w') := FC0
            have NX : Hid (∀ j y, j < q + 1 → o.datas[j]? = some y → rdataOk y) := upto_next HS.out HX.out he
            clear hx wb wr' hsz KR U3 hkc FC0 he
            gi_wp2_with (refine ⟨trivial, rfl, ?_⟩; gi_at_call 67; refine (callsIn_wide.2 FC.out).mono ?_; rintro e v3 ⟨rfl, hb3⟩; have Jv3 := Hid.mk0 (HJ.out _ _ Jr.out hb3); have Av3 := Hid.mk0 (apart_step Ar.out hb3); clear hb3; obtain ⟨fn, tmps, assign, body, hy, hR⟩ := Y0.out v3 Jv3.out)
            refine ⟨rfl, hR.mono ?_⟩
            rintro e v4 ⟨rfl, hj, ha⟩
            have hj' : Hid (J v4 ∧ Apart (Win B W.heap.size) W v4) := ⟨hj, apart_next Av3.out ha⟩
            clear hj ha hy hR
            gi_wp2
            go_roundw
            case rel => exact ⟨q + 1, by omega, by go_num, NX.out, hj'.out.1, hj'.out.2⟩
            case measure => simp [intOf]; omega
          · rw [if_neg he] at FC0
            have FC : Hid (Calls Tryz.prog 67 #[.agg #[.string xn, .int .i64 xb, .int .i64 xa, .bool xf, .int .i64 xz, .slice ca lb.length cc, .slice ra lr.length rc]] (wr.alloc (.cells #[.string xn, .int .i64 xb, .int .i64 xa, .bool xf, .int .i64 xz, .slice ca lb.length cc, .slice ra lr.length rc] 52)) fun e w' => e = .returned (.int .i64 4) ∧ Below wr.heap.size wr w') := FC0
            have E : Hid (objE o = 4) := objE_data P1.out P2.out (List.mem_of_getElem? HX.out) he
            clear hx wb wr' hsz KR U3 hkc FC0 he
            gi_wp2_with (refine ⟨trivial, rfl, ?_⟩; gi_at_call 67; refine (callsIn_wide.2 FC.out).mono ?_; rintro e v3 ⟨rfl, hb3⟩; obtain ⟨fn, tmps, assign, body, hy, hR⟩ := YX.out 4 v3 (by decide) (HJ.out _ _ Jr.out hb3))
            refine ⟨rfl, hR.mono ?_⟩
            rintro e W' ⟨rfl, hx⟩
            gi_wp2
            exact bodyPost_ret (results_none rfl _ _ _) rfl ⟨⟨_, rfl⟩, .inr ⟨by rw [E.out]; decide, by rw [E.out]; exact hx⟩⟩
        · obtain rfl : q = D := by omega
          have P3 : Hid (∀ d ∈ o.datas, rdataOk d) := upto_all (by rw [EF.out.2]; exact HS.out)
          clear HS
          have KR := KF.out _ Ar.out
          have y0 := KR.2.2.1 0 _ rfl
          have y1 := KR.2.2.1 1 _ rfl
          have y2 := KR.2.2.1 2 _ rfl
          obtain ⟨c9, I9⟩ := bool_of (namesOk o)
          have NM : Hid (Calls Tryz.prog 69 #[.agg #[.slice fa k fc, .slice da q dc, .slice na N nc]] wr fun e w' => e = .returned (.bool c9) ∧ Below wr.heap.size wr w') := (named_obj (HO.out.kc KR.1) (few_of_ok P1.out)).mono fun e w' h => ⟨says_is h.1 I9.out, h.2⟩
          clear KR
          cases c9
          · have E : Hid (objE o = 4) := objE_names P1.out P2.out P3.out fun h => by have := I9.out.2 h; cases this
            gi_wp2_with (first
              | (refine ⟨trivial, rfl, ?_⟩; gi_at_call 69; refine (callsIn_wide.2 NM.out).mono ?_; rintro e v3 ⟨rfl, hb3⟩; obtain ⟨fn, tmps, assign, body, hy, hR⟩ := YX.out 4 v3 (by decide) (HJ.out _ _ Jr.out hb3))
              | (refine ⟨trivial, rfl, ?_⟩; gi_at_call 68; refine (callsIn_wide.2 (need_f _ _)).mono ?_; rintro e wn ⟨rfl, hwn⟩; obtain rfl := hwn.symm))
            refine ⟨rfl, hR.mono ?_⟩
            rintro e W' ⟨rfl, hx⟩
            gi_wp2
            go_end0
            exact ⟨⟨_, rfl⟩, .inr ⟨by rw [E.out]; decide, by rw [E.out]; exact hx⟩⟩
          · have E : Hid (objE o = 0) := objE_ok P1.out P2.out P3.out (I9.out.1 rfl)
            gi_wp2_with (first
              | (refine ⟨trivial, rfl, ?_⟩; gi_at_call 69; refine (callsIn_wide.2 NM.out).mono ?_; rintro e v3 ⟨rfl, hb3⟩; obtain ⟨fn, tmps, assign, body, hy, hR⟩ := Y0.out v3 (HJ.out _ _ Jr.out hb3))
              | (refine ⟨trivial, rfl, ?_⟩; gi_at_call 68; refine (callsIn_wide.2 (need_t _ _)).mono ?_; rintro e wn ⟨rfl, hwn⟩; obtain rfl := hwn.symm))
            refine ⟨rfl, hR.mono ?_⟩
            rintro e W' ⟨rfl, hj, ha⟩
            gi_wp2
            go_end0
            exact ⟨⟨_, rfl⟩, .inl ⟨E.out, hj⟩⟩
set_option maxRecDepth 100000 in
theorem ofobj_any (fa da na : Option Addr) (F fc D dc N nc : Nat) (w : World) :
    Calls Tryz.prog 56 #[.agg #[.slice fa F fc, .slice da D dc, .slice na N nc]] w fun e w' => e = .returned (.func (.func 64) #[] #[.pointer (some ⟨w.heap.size, 0, none⟩)]) ∧ w' = w.alloc (.cells #[.slice fa F fc, .slice da D dc, .slice na N nc] 46) := by
  go_enter Tryz.func56, Tryz.ntmps56
  go_wp2
  go_ret
  exact ⟨rfl, rfl⟩
set_option maxRecDepth 100000 in
set_option maxHeartbeats 1000000 in
theorem obj_any {A : Nat → Prop} {w : World} {u : Value} {o : ObjM} (h : IsObj A w u o) (hT : Tab w) :
    Calls Tryz.prog 37 #[u] w fun e w' => e = .returned (.int .i64 (objE o)) ∧ Below w.heap.size w w' := by
  have HI := h
  obtain ⟨fa, fc, da, dc, na, nc, rfl⟩ := h.open
  have eg : ∀ args w, (callFunc 64 args).run Tryz.prog w = .ok (.enter 64 args) w := enters_of Tryz.func64 (by kernel_rfl) rfl
  generalize o.funcs.length = F at *
  generalize o.datas.length = D at *
  generalize o.notes.length = N at *
  have F1 := (first_told eg (tells_obj (w := ((w.alloc (.cells #[.slice fa F fc, .slice da D dc, .slice na N nc] 46)).alloc (.cells #[.slice fa F fc, .slice da D dc, .slice na N nc] 46)).alloc (.cells #[.int .i64 0] 29)) (w0 := w) (B := ((w.alloc (.cells #[.slice fa F fc, .slice da D dc, .slice na N nc] 46)).alloc (.cells #[.slice fa F fc, .slice da D dc, .slice na N nc] 46)).heap.size) (ob := (w.alloc (.cells #[.slice fa F fc, .slice da D dc, .slice na N nc] 46)).heap.size) (o := o) (by simp) (by simp) HI (by simp; omega)
    (KC.of_below (keep_alloc8 (keep_alloc8 (keep_alloc8 (Below.refl _ _) _) _) _)) (hT.later (keep_alloc8 (keep_alloc8 (keep_alloc8 (Below.refl _ _) _) _) _))
    (fun cs e => by cases e; exact (XAt.new (w.alloc (.cells #[.slice fa F fc, .slice da D dc, .slice na N nc] 46)) #[.slice fa F fc, .slice da D dc, .slice na N nc] 46).later (by simp) (keep_alloc8 (Below.refl _ _) _)))).mono fun e w' h => And.intro h.1 (bnext (keep_alloc8 (keep_alloc8 (Below.refl _ w) (.cells #[.slice fa F fc, .slice da D dc, .slice na N nc] 46)) (.cells #[.slice fa F fc, .slice da D dc, .slice na N nc] 46)) h.2)
  rw [World.size_alloc] at F1
  generalize objE o = r at F1 ⊢
  have F2 : Hid (Calls Tryz.prog 55 #[.func (.func 64) #[] #[.pointer (some ⟨w.heap.size + 1, 0, none⟩)]] ((w.alloc (.cells #[.slice fa F fc, .slice da D dc, .slice na N nc] 46)).alloc (.cells #[.slice fa F fc, .slice da D dc, .slice na N nc] 46)) fun e w' => e = .returned (.int .i64 r) ∧ Below w.heap.size w w') := F1
  have O2 : Hid (Calls Tryz.prog 56 #[.agg #[.slice fa F fc, .slice da D dc, .slice na N nc]] (w.alloc (.cells #[.slice fa F fc, .slice da D dc, .slice na N nc] 46)) fun e w' => e = .returned (.func (.func 64) #[] #[.pointer (some ⟨w.heap.size + 1, 0, none⟩)]) ∧ w' = (w.alloc (.cells #[.slice fa F fc, .slice da D dc, .slice na N nc] 46)).alloc (.cells #[.slice fa F fc, .slice da D dc, .slice na N nc] 46)) := by
    have h := ofobj_any fa da na F fc D dc N nc (w.alloc (.cells #[.slice fa F fc, .slice da D dc, .slice na N nc] 46))
    rwa [World.size_alloc] at h
  clear HI h hT F1 eg
  go_enter Tryz.func37, Tryz.ntmps37
  go_wp2_with (first
    | (go_at_call 56; refine O2.out.mono ?_; rintro e w1 ⟨rfl, rfl⟩)
    | (go_at_call 55; refine F2.out.mono ?_; rintro e w2 ⟨rfl, hb2⟩))
  go_ret
  exact ⟨rfl, hb2⟩
end Go.Proofs.YteakbpcmafdikaaGreatDoor
