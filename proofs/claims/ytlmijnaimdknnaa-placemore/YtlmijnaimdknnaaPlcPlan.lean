/- A program's plan, as the code has it; all functions in order; an address. -/
import Derived.Test.YtlmijnaimdknnaaPlcFun
import Derived.Test.YtlmijnaimdknnaaPlcDat2
namespace Go.Proofs.Ytlmijnaimdknnaa
open Go.ChangeShapes Go.WideShapes Go.ChangeAt Go.RowKit
set_option linter.unusedVariables false
set_option linter.unusedSimpArgs false
theorem functions_bad {w : World} {v vo : Value} {p : ProgZ} {o : List Int} (h : IsP w v p) (ho : IsNums w vo o) (hm : MayQ p) (hl : o.length ≤ 400) (hb : OrderBad p o) :
    Calls Try.prog 10 #[v, vo] w fun e w' => (∃ v1 wd, e = .returned (.tuple #[v1, .int .i64 wd, .bool false])) ∧ Below w.heap.size w w' := by
  refine (functions_any h ho hm hl).mono ?_
  rintro e w' ⟨⟨F, wd, g, h1, h2, -⟩ | ⟨-, h1⟩, hB⟩
  · rcases hb with h3 | ⟨F', w1, h3, h4⟩
    · rw [h1] at h3; cases h3
    · rw [h1] at h3; simp only [Option.some.injEq, Prod.mk.injEq] at h3; obtain ⟨rfl, rfl⟩ := h3; exact absurd h2 h4
  · exact ⟨h1, hB⟩
theorem functions_ok {w : World} {v vo : Value} {p : ProgZ} {o : List Int} {F : List Int} {wd : Int} (h : IsP w v p) (ho : IsNums w vo o) (hm : MayQ p) (hl : o.length ≤ 400) (hc : codeN p.codes o o.length = some (F, wd)) (he : EntryOk p F) :
    Calls Try.prog 10 #[v, vo] w fun e w' => (∃ g, e = .returned (.tuple #[.slice (some ⟨g, 0, none⟩) p.codes.length p.codes.length, .int .i64 wd, .bool true]) ∧ w.heap.size ≤ g ∧ g < w'.heap.size ∧ XAt w' g (nums F)) ∧ Below w.heap.size w w' := by
  refine (functions_any h ho hm hl).mono ?_
  rintro e w' ⟨⟨F', wd', g, h1, h2, h3, h4⟩ | ⟨hb, -⟩, hB⟩
  · rw [hc] at h1; simp only [Option.some.injEq, Prod.mk.injEq] at h1; obtain ⟨rfl, rfl⟩ := h1; exact ⟨⟨g, h3, h4⟩, hB⟩
  · rcases hb with h3 | ⟨F', w1, h3, h4⟩
    · rw [hc] at h3; cases h3
    · rw [hc] at h3; simp only [Option.some.injEq, Prod.mk.injEq] at h3; obtain ⟨rfl, rfl⟩ := h3; exact absurd he h4
theorem plan_bad {p : ProgZ} {o : List Int} (h : OrderBad p o) : planZ p o = (1, noPlan) := by
  rcases h with h | ⟨F, w, h, h1⟩
  · exact plan_order h
  · exact plan_entry h h1
theorem order_ways (p : ProgZ) (o : List Int) : OrderBad p o ∨ ∃ F w, codeN p.codes o o.length = some (F, w) ∧ EntryOk p F := by
  cases h : codeN p.codes o o.length with
  | none => exact .inl (.inl h)
  | some s =>
    obtain ⟨F, w⟩ := s
    by_cases he : EntryOk p F
    · exact .inr ⟨F, w, rfl, he⟩
    · exact .inl (.inr ⟨F, w, h, he⟩)
set_option maxRecDepth 100000 in
set_option maxHeartbeats 4000000 in
theorem plan_anyQ {w : World} {v vo : Value} {p : ProgZ} {o : List Int} (h : IsP w v p) (ho : IsNums w vo o) (hm : MayQ p) (hl : o.length ≤ 400) :
    Calls Try.prog 6 #[v, vo] w fun e w' => PlanPost w.heap.size (planZ p o) e w' ∧ Below w.heap.size w w' := by
  have h0 := h
  have ho0 := ho
  obtain ⟨vf, vd, rfl, hf, hd⟩ := h
  have hd0 := hd
  obtain ⟨fa, fc, rfl, -, -, -⟩ := LstA.open hf
  obtain ⟨da, dc, rfl, -, -, -⟩ := LstA.open hd
  obtain ⟨oa, oc, rfl, -, -, -⟩ := LstA.open ho
  have HM : Hid (MayQ p) := hm
  have HP : Hid (∀ W, Below w.heap.size w W → IsP W (.agg #[.slice fa p.codes.length fc, .slice da p.datas.length dc, .int .i64 p.entry]) p) := fun W hW => h0.later hW
  have HO : Hid (∀ W, Below w.heap.size w W → IsNums W (.slice oa o.length oc) o) := fun W hW => ho0.later hW
  have HD : Hid (∀ W, Below w.heap.size w W → IsPds W (.slice da p.datas.length dc) p.datas) := fun W hW => hd0.later hW
  obtain ⟨F, eF⟩ : ∃ F, p.codes.length = F := ⟨_, rfl⟩
  obtain ⟨D, eD⟩ : ∃ D, p.datas.length = D := ⟨_, rfl⟩
  obtain ⟨E, eE⟩ : ∃ E, p.entry = E := ⟨_, rfl⟩
  obtain ⟨O, eO⟩ : ∃ O, o.length = O := ⟨_, rfl⟩
  have FB : Hid (OrderBad p o → ∀ W, Below w.heap.size w W → Calls Try.prog 10 #[.agg #[.slice fa p.codes.length fc, .slice da p.datas.length dc, .int .i64 p.entry], .slice oa o.length oc] W fun e w' => (∃ v1 wd, e = .returned (.tuple #[v1, .int .i64 wd, .bool false])) ∧ Below W.heap.size W w') := fun hb W hW => functions_bad (HP.out W hW) (HO.out W hW) HM.out hl hb
  have FO : Hid (∀ G wd, codeN p.codes o o.length = some (G, wd) → EntryOk p G → ∀ W, Below w.heap.size w W → Calls Try.prog 10 #[.agg #[.slice fa p.codes.length fc, .slice da p.datas.length dc, .int .i64 p.entry], .slice oa o.length oc] W fun e w' => (∃ g, e = .returned (.tuple #[.slice (some ⟨g, 0, none⟩) p.codes.length p.codes.length, .int .i64 wd, .bool true]) ∧ W.heap.size ≤ g ∧ g < w'.heap.size ∧ XAt w' g (nums G)) ∧ Below W.heap.size W w') := fun G wd h1 h2 W hW => functions_ok (HP.out W hW) (HO.out W hW) HM.out hl h1 h2
  have DC : Hid (∀ W, Below w.heap.size w W → Calls Try.prog 11 #[.slice da p.datas.length dc] W fun e w' => (∃ g, W.heap.size ≤ g ∧ g < w'.heap.size ∧ XAt w' g (nums (restG p.datas).1) ∧ e = .returned (.tuple #[.agg #[.slice none 0 0, .slice (some ⟨g, 0, none⟩) p.datas.length p.datas.length, .int .i64 0, .int .i64 (restG p.datas).2, .int .i64 (writeG p.datas)], .bool (decide ((restG p.datas).2 ≤ 65536))])) ∧ Below W.heap.size W w') := fun W hW => data_any (HD.out W hW) HM.out.2.1 HM.out.2.2.2
  have EF : Hid (p.codes.length = F ∧ p.datas.length = D ∧ p.entry = E ∧ o.length = O) := ⟨eF, eD, eE, eO⟩
  rw [eF, eD, eE, eO] at FB FO
  rw [eD] at DC
  rw [eF, eD, eE, eO]
  clear hf hd ho h0 ho0 hd0 hm eF eD eE eO HP HO HD hl
  unfold PlanPost
  obtain ⟨W0, eW0⟩ : ∃ W0, ((w.alloc (.cells #[.slice fa F fc, .slice da D dc, .int .i64 E] 25)).alloc (.cells #[.slice none 0 0, .slice none 0 0, .int .i64 0, .int .i64 0, .int .i64 0] 34)) = W0 := ⟨_, rfl⟩
  have UP : Hid (Below w.heap.size w W0) := by rw [← eW0]; exact keep_alloc8 (keep_alloc8 (Below.refl _ _) _) _
  have XA : Hid (XAt W0 w.heap.size [.slice fa F fc, .slice da D dc, .int .i64 E]) := by rw [← eW0]; exact (XAt.new w #[.slice fa F fc, .slice da D dc, .int .i64 E] 25).later (by simp) (keep_alloc8 (Below.refl _ _) _)
  have XB : Hid (XAt W0 (w.heap.size + 1) [.slice none 0 0, .slice none 0 0, .int .i64 0, .int .i64 0, .int .i64 0]) := by
    have h := XAt.new (w.alloc (.cells #[.slice fa F fc, .slice da D dc, .int .i64 E] 25)) #[.slice none 0 0, .slice none 0 0, .int .i64 0, .int .i64 0, .int .i64 0] 34
    rw [World.size_alloc] at h; rw [← eW0]; exact h
  have ha : Hid (w.heap.size < W0.heap.size) := XA.out.lt (by simp)
  have hb : Hid (w.heap.size + 1 < W0.heap.size) := XB.out.lt (by simp)
  have p0 := XA.out.1 0 _ rfl
  have p1 := XA.out.1 1 _ rfl
  have p2 := XA.out.1 2 _ rfl
  rcases order_ways p o with hbad | ⟨G, wd, hc, he⟩
  · have FB' := FB.out hbad
    have FBH : Hid (∀ W, Below w.heap.size w W → Calls Try.prog 10 #[.agg #[.slice fa F fc, .slice da D dc, .int .i64 E], .slice oa O oc] W fun e w' => (∃ v1 wd, e = .returned (.tuple #[v1, .int .i64 wd, .bool false])) ∧ Below W.heap.size W w') := FB'
    have HB : Hid (planZ p o = (1, noPlan)) := plan_bad hbad
    clear FB FO DC FB' hbad
    go_enter Try.func6, Try.ntmps6
    go_upto_region 1 with fail
    try rw [eW0]
    clear eW0
    go_upto_region 2 with ((go_at_call 10); refine (FBH.out _ UP.out).mono ?_; rintro e w2 ⟨⟨v1, wd, rfl⟩, hB2⟩)
    have R2 : Hid (XAt w2 (w.heap.size + 1) [.slice none 0 0, .slice none 0 0, .int .i64 0, .int .i64 0, .int .i64 0]) := XB.out.later hb.out hB2
    have B2 : Hid (Below w.heap.size w w2) := bnext UP.out hB2
    have r0 := R2.out.1 0 _ rfl
    have r1 := R2.out.1 1 _ rfl
    have r2 := R2.out.1 2 _ rfl
    have r3 := R2.out.1 3 _ rfl
    have r4 := R2.out.1 4 _ rfl
    have f0 := R2.out.2 0
    have f1 := R2.out.2 1
    have f2 := R2.out.2 2
    have f3 := R2.out.2 3
    have f4 := R2.out.2 4
    go_wp2
    rw [set5_eq]
    have RZ : Hid (XAt (set5 w2 (w.heap.size + 1) (.slice none 0 0) (.slice none 0 0) (.int .i64 0) (.int .i64 0) (.int .i64 0)) (w.heap.size + 1) [.slice none 0 0, .slice none 0 0, .int .i64 0, .int .i64 0, .int .i64 0]) := xat_set5 R2.out
    have BZ : Hid (Below w.heap.size w (set5 w2 (w.heap.size + 1) (.slice none 0 0) (.slice none 0 0) (.int .i64 0) (.int .i64 0) (.int .i64 0))) := below_set5 B2.out (by omega)
    generalize (set5 w2 (w.heap.size + 1) (.slice none 0 0) (.slice none 0 0) (.int .i64 0) (.int .i64 0) (.int .i64 0)) = w8 at RZ BZ ⊢
    have z0 := RZ.out.1 0 _ rfl
    have z1 := RZ.out.1 1 _ rfl
    have z2 := RZ.out.1 2 _ rfl
    have z3 := RZ.out.1 3 _ rfl
    have z4 := RZ.out.1 4 _ rfl
    refine bodyPost_ret (v := .tuple #[.agg #[.slice none 0 0, .slice none 0 0, .int .i64 0, .int .i64 0, .int .i64 0], .int .i64 1]) ?_ rfl ⟨⟨_, by rw [HB.out], by rw [HB.out]; exact IsPlan.none⟩, BZ.out⟩
    simp [results, Try.results6, go_sem, z0, z1, z2, z3, z4]
  · have FOH : Hid (∀ W, Below w.heap.size w W → Calls Try.prog 10 #[.agg #[.slice fa F fc, .slice da D dc, .int .i64 E], .slice oa O oc] W fun e w' => (∃ g, e = .returned (.tuple #[.slice (some ⟨g, 0, none⟩) F F, .int .i64 wd, .bool true]) ∧ W.heap.size ≤ g ∧ g < w'.heap.size ∧ XAt w' g (nums G)) ∧ Below W.heap.size W w') := FO.out G wd (by rw [← EF.out.2.2.2]; exact hc) he
    have HC : Hid (codeN p.codes o o.length = some (G, wd)) := hc
    have HE : Hid (EntryOk p G) := he
    have HGl : Hid (G.length = F) := by rw [(code_some hc).1]; exact EF.out.1
    obtain ⟨R1, R2⟩ := rest_is (l := p.datas) HM.out.2.2.2
    have HR1 : Hid ((restN p.datas).2 ≤ 65536 → restG p.datas = restN p.datas ∧ writeG p.datas = writeZ p.datas) := R1
    have HR2 : Hid (65536 < (restN p.datas).2 → 65536 < (restG p.datas).2) := R2
    have HDl : Hid ((restN p.datas).1.length = D) := by
      show (restN p.datas).1.length = D
      unfold restN fixN; rw [pass_len, pass_len, List.length_replicate]; exact EF.out.2.1
    have LF : Hid (F ≤ maxLen ∧ D ≤ maxLen) := by have h1 := HM.out.1; have h2 := HM.out.2.1; have h3 := EF.out; unfold maxLen; show _ ∧ _; omega
    generalize restG p.datas = RG at HR1 HR2 DC
    generalize writeG p.datas = wt at HR1 DC
    obtain ⟨DD, b2⟩ := RG
    dsimp only at *
    clear FB FO hc he R1 R2
    go_enter Try.func6, Try.ntmps6
    go_upto_region 1 with fail
    try rw [eW0]
    clear eW0
    go_upto_region 2 with ((go_at_call 10); refine (FOH.out _ UP.out).mono ?_; rintro e w2 ⟨⟨g, rfl, hg1, hg2, hG⟩, hB2⟩)
    have R2 : Hid (XAt w2 (w.heap.size + 1) [.slice none 0 0, .slice none 0 0, .int .i64 0, .int .i64 0, .int .i64 0]) := XB.out.later hb.out hB2
    have A2 : Hid (XAt w2 w.heap.size [.slice fa F fc, .slice da D dc, .int .i64 E]) := XA.out.later ha.out hB2
    have B2 : Hid (Below w.heap.size w w2) := bnext UP.out hB2
    have G2 : Hid (XAt w2 g (nums G)) := hG
    have S2 : Hid (w.heap.size + 1 < g ∧ g < w2.heap.size) := ⟨by have := hb.out; omega, hg2⟩
    clear hg1 hg2 hG hB2 p0 p1 p2
    have p1 := A2.out.1 1 _ rfl
    go_upto_region 5 with ((go_at_call 11); refine (DC.out _ B2.out).mono ?_; rintro e w3 ⟨⟨h, hh1, hh2, hH, rfl⟩, hB3⟩)
    obtain ⟨w4, e4⟩ : ∃ w4, w3.alloc (.cells #[.slice none 0 0, .slice (some ⟨h, 0, none⟩) D D, .int .i64 0, .int .i64 b2, .int .i64 wt] 34) = w4 := ⟨_, rfl⟩
    have U4 : Hid (Below w3.heap.size w3 w4) := by rw [← e4]; exact keep_alloc8 (Below.refl _ _) _
    have U24 : Hid (Below w2.heap.size w2 w4) := bnext hB3 U4.out
    have S3 : Hid (w2.heap.size ≤ h ∧ h < w3.heap.size ∧ w2.heap.size ≤ w3.heap.size ∧ w3.heap.size < w4.heap.size) := ⟨hh1, hh2, hB3.size, by rw [← e4]; simp⟩
    have R4 : Hid (XAt w4 (w.heap.size + 1) [.slice none 0 0, .slice none 0 0, .int .i64 0, .int .i64 0, .int .i64 0]) := R2.out.later (by have := S2.out; omega) U24.out
    have B4 : Hid (Below w.heap.size w w4) := bnext B2.out U24.out
    have G4 : Hid (XAt w4 g (nums G)) := G2.out.later S2.out.2 U24.out
    have H4 : Hid (XAt w4 h (nums DD)) := hH.later hh2 U4.out
    have X4 : Hid (XAt w4 w3.heap.size [.slice none 0 0, .slice (some ⟨h, 0, none⟩) D D, .int .i64 0, .int .i64 b2, .int .i64 wt]) := by rw [← e4]; exact XAt.new w3 _ _
    go_upto_region 5 with fail
    try rw [e4]
    clear e4 hh1 hh2 hH hB3 p1 R2 A2 G2 B2 XA XB UP ha hb
    by_cases hb2 : b2 ≤ 65536
    rotate_left
    · have hd2 : decide (b2 ≤ 65536) = false := by simpa using hb2
      have HB2 : Hid (¬ b2 ≤ 65536) := hb2
      clear hb2
      have HB : Hid (planZ p o = (8, noPlan)) := plan_long HC.out HE.out (.inr (by have h1 := HR1.out; have h2 := HB2.out; refine Int.not_le.1 fun h3 => h2 ?_; have h4 := (h1 h3).1; rw [← h4] at h3; exact h3))
      have r0 := R4.out.1 0 _ rfl
      have r1 := R4.out.1 1 _ rfl
      have r2 := R4.out.1 2 _ rfl
      have r3 := R4.out.1 3 _ rfl
      have r4 := R4.out.1 4 _ rfl
      have f0 := R4.out.2 0
      have f1 := R4.out.2 1
      have f2 := R4.out.2 2
      have f3 := R4.out.2 3
      have f4 := R4.out.2 4
      go_wp2
      rw [set5_eq]
      have RZ : Hid (XAt (set5 w4 (w.heap.size + 1) (.slice none 0 0) (.slice none 0 0) (.int .i64 0) (.int .i64 0) (.int .i64 0)) (w.heap.size + 1) [.slice none 0 0, .slice none 0 0, .int .i64 0, .int .i64 0, .int .i64 0]) := xat_set5 R4.out
      have BZ : Hid (Below w.heap.size w (set5 w4 (w.heap.size + 1) (.slice none 0 0) (.slice none 0 0) (.int .i64 0) (.int .i64 0) (.int .i64 0))) := below_set5 B4.out (by omega)
      generalize (set5 w4 (w.heap.size + 1) (.slice none 0 0) (.slice none 0 0) (.int .i64 0) (.int .i64 0) (.int .i64 0)) = w8 at RZ BZ ⊢
      have z0 := RZ.out.1 0 _ rfl
      have z1 := RZ.out.1 1 _ rfl
      have z2 := RZ.out.1 2 _ rfl
      have z3 := RZ.out.1 3 _ rfl
      have z4 := RZ.out.1 4 _ rfl
      refine bodyPost_ret (v := .tuple #[.agg #[.slice none 0 0, .slice none 0 0, .int .i64 0, .int .i64 0, .int .i64 0], .int .i64 8]) ?_ rfl ⟨⟨_, by rw [HB.out], by rw [HB.out]; exact IsPlan.none⟩, BZ.out⟩
      simp [results, Try.results6, go_sem, z0, z1, z2, z3, z4]
    have hd2 : decide (b2 ≤ 65536) = true := by simpa using hb2
    have RN : Hid ((DD, b2) = restN p.datas ∧ wt = writeZ p.datas) := HR1.out (Int.not_lt.1 fun h => by have := HR2.out h; omega)
    have HB2 : Hid (b2 ≤ 65536) := hb2
    clear hb2
    by_cases hw : 65536 < wd
    · have hdw : decide (65536 < wd) = true := by simpa using hw
      have HW : Hid (65536 < wd) := hw
      clear hw
      have HB : Hid (planZ p o = (8, noPlan)) := plan_long HC.out HE.out (.inl HW.out)
      have r0 := R4.out.1 0 _ rfl
      have r1 := R4.out.1 1 _ rfl
      have r2 := R4.out.1 2 _ rfl
      have r3 := R4.out.1 3 _ rfl
      have r4 := R4.out.1 4 _ rfl
      have f0 := R4.out.2 0
      have f1 := R4.out.2 1
      have f2 := R4.out.2 2
      have f3 := R4.out.2 3
      have f4 := R4.out.2 4
      go_wp2
      rw [set5_eq]
      have RZ : Hid (XAt (set5 w4 (w.heap.size + 1) (.slice none 0 0) (.slice none 0 0) (.int .i64 0) (.int .i64 0) (.int .i64 0)) (w.heap.size + 1) [.slice none 0 0, .slice none 0 0, .int .i64 0, .int .i64 0, .int .i64 0]) := xat_set5 R4.out
      have BZ : Hid (Below w.heap.size w (set5 w4 (w.heap.size + 1) (.slice none 0 0) (.slice none 0 0) (.int .i64 0) (.int .i64 0) (.int .i64 0))) := below_set5 B4.out (by omega)
      generalize (set5 w4 (w.heap.size + 1) (.slice none 0 0) (.slice none 0 0) (.int .i64 0) (.int .i64 0) (.int .i64 0)) = w8 at RZ BZ ⊢
      have z0 := RZ.out.1 0 _ rfl
      have z1 := RZ.out.1 1 _ rfl
      have z2 := RZ.out.1 2 _ rfl
      have z3 := RZ.out.1 3 _ rfl
      have z4 := RZ.out.1 4 _ rfl
      refine bodyPost_ret (v := .tuple #[.agg #[.slice none 0 0, .slice none 0 0, .int .i64 0, .int .i64 0, .int .i64 0], .int .i64 8]) ?_ rfl ⟨⟨_, by rw [HB.out], by rw [HB.out]; exact IsPlan.none⟩, BZ.out⟩
      simp [results, Try.results6, go_sem, z0, z1, z2, z3, z4]
    · have hdw : decide (65536 < wd) = false := by simpa using hw
      have HW : Hid (¬ 65536 < wd) := hw
      clear hw
      have x0 := X4.out.1 0 _ rfl
      have x2 := X4.out.1 2 _ rfl
      have xf0 := X4.out.2 0
      have xf2 := X4.out.2 2
      have HB : Hid (planZ p o = (0, ⟨G, DD, wd, b2, wt⟩)) := by
        have h := plan_ok HC.out HE.out (fun q => q.elim HW.out fun q => by rw [← RN.out.1] at q; exact Int.not_lt.2 HB2.out q)
        rw [← RN.out.1, ← RN.out.2] at h; exact h
      go_upto_region 7 with fail
      go_upto_region 8 with fail
      have X5 : Hid (XAt ((w4.setCell ⟨w3.heap.size, 0, none⟩ (.slice (some ⟨g, 0, none⟩) F F)).setCell ⟨w3.heap.size, 2, none⟩ (.int .i64 wd)) w3.heap.size [.slice (some ⟨g, 0, none⟩) F F, .slice (some ⟨h, 0, none⟩) D D, .int .i64 wd, .int .i64 b2, .int .i64 wt]) := (X4.out.set 0 (by simp) (.slice (some ⟨g, 0, none⟩) F F)).set 2 (by simp) (.int .i64 wd)
      have R5 : Hid (XAt ((w4.setCell ⟨w3.heap.size, 0, none⟩ (.slice (some ⟨g, 0, none⟩) F F)).setCell ⟨w3.heap.size, 2, none⟩ (.int .i64 wd)) (w.heap.size + 1) [.slice none 0 0, .slice none 0 0, .int .i64 0, .int .i64 0, .int .i64 0]) := xat_other (xat_other R4.out (by have := S2.out; have := S3.out; omega) _) (by have := S2.out; have := S3.out; omega) _
      have G5 : Hid (XAt ((w4.setCell ⟨w3.heap.size, 0, none⟩ (.slice (some ⟨g, 0, none⟩) F F)).setCell ⟨w3.heap.size, 2, none⟩ (.int .i64 wd)) g (nums G)) := xat_other (xat_other G4.out (by have := S2.out; have := S3.out; omega) _) (by have := S2.out; have := S3.out; omega) _
      have H5 : Hid (XAt ((w4.setCell ⟨w3.heap.size, 0, none⟩ (.slice (some ⟨g, 0, none⟩) F F)).setCell ⟨w3.heap.size, 2, none⟩ (.int .i64 wd)) h (nums DD)) := xat_other (xat_other H4.out (by have := S3.out; omega) _) (by have := S3.out; omega) _
      have hle5 : w.heap.size ≤ w3.heap.size := by have := S2.out; have := S3.out; omega
      have B5 : Hid (Below w.heap.size w ((w4.setCell ⟨w3.heap.size, 0, none⟩ (.slice (some ⟨g, 0, none⟩) F F)).setCell ⟨w3.heap.size, 2, none⟩ (.int .i64 wd))) := (B4.out.setCell hle5 _).setCell hle5 _
      have Z5 : Hid (w3.heap.size < ((w4.setCell ⟨w3.heap.size, 0, none⟩ (.slice (some ⟨g, 0, none⟩) F F)).setCell ⟨w3.heap.size, 2, none⟩ (.int .i64 wd)).heap.size) := by have := S3.out.2.2.2; simpa [Hid] using this
      generalize ((w4.setCell ⟨w3.heap.size, 0, none⟩ (.slice (some ⟨g, 0, none⟩) F F)).setCell ⟨w3.heap.size, 2, none⟩ (.int .i64 wd)) = w5 at X5 R5 G5 H5 B5 Z5 ⊢
      clear x0 x2 xf0 xf2 X4 R4 G4 H4 B4
      have x0 := X5.out.1 0 _ rfl
      have x1 := X5.out.1 1 _ rfl
      have x2 := X5.out.1 2 _ rfl
      have x3 := X5.out.1 3 _ rfl
      have x4 := X5.out.1 4 _ rfl
      have r0 := R5.out.1 0 _ rfl
      have r1 := R5.out.1 1 _ rfl
      have r2 := R5.out.1 2 _ rfl
      have r3 := R5.out.1 3 _ rfl
      have r4 := R5.out.1 4 _ rfl
      have f0 := R5.out.2 0
      have f1 := R5.out.2 1
      have f2 := R5.out.2 2
      have f3 := R5.out.2 3
      have f4 := R5.out.2 4
      go_wp2
      rw [set5_eq]
      have RZ : Hid (XAt (set5 w5 (w.heap.size + 1) (.slice (some ⟨g, 0, none⟩) F F) (.slice (some ⟨h, 0, none⟩) D D) (.int .i64 wd) (.int .i64 b2) (.int .i64 wt)) (w.heap.size + 1) [.slice (some ⟨g, 0, none⟩) F F, .slice (some ⟨h, 0, none⟩) D D, .int .i64 wd, .int .i64 b2, .int .i64 wt]) := xat_set5 R5.out
      have GZ : Hid (XAt (set5 w5 (w.heap.size + 1) (.slice (some ⟨g, 0, none⟩) F F) (.slice (some ⟨h, 0, none⟩) D D) (.int .i64 wd) (.int .i64 b2) (.int .i64 wt)) g (nums G)) := xat_other5 G5.out (by have := S2.out; omega)
      have HZ : Hid (XAt (set5 w5 (w.heap.size + 1) (.slice (some ⟨g, 0, none⟩) F F) (.slice (some ⟨h, 0, none⟩) D D) (.int .i64 wd) (.int .i64 b2) (.int .i64 wt)) h (nums DD)) := xat_other5 H5.out (by have := S2.out; have := S3.out; omega)
      have BZ : Hid (Below w.heap.size w (set5 w5 (w.heap.size + 1) (.slice (some ⟨g, 0, none⟩) F F) (.slice (some ⟨h, 0, none⟩) D D) (.int .i64 wd) (.int .i64 b2) (.int .i64 wt))) := below_set5 B5.out (by omega)
      have ZZ : Hid (w3.heap.size < (set5 w5 (w.heap.size + 1) (.slice (some ⟨g, 0, none⟩) F F) (.slice (some ⟨h, 0, none⟩) D D) (.int .i64 wd) (.int .i64 b2) (.int .i64 wt)).heap.size) := by rw [size_set5]; exact Z5.out
      generalize (set5 w5 (w.heap.size + 1) (.slice (some ⟨g, 0, none⟩) F F) (.slice (some ⟨h, 0, none⟩) D D) (.int .i64 wd) (.int .i64 b2) (.int .i64 wt)) = w8 at RZ GZ HZ BZ ZZ ⊢
      have z0 := RZ.out.1 0 _ rfl
      have z1 := RZ.out.1 1 _ rfl
      have z2 := RZ.out.1 2 _ rfl
      have z3 := RZ.out.1 3 _ rfl
      have z4 := RZ.out.1 4 _ rfl
      have HDD : DD.length = D := by have h1 := HDl.out; rw [← RN.out.1] at h1; exact h1
      refine bodyPost_ret (v := .tuple #[.agg #[.slice (some ⟨g, 0, none⟩) F F, .slice (some ⟨h, 0, none⟩) D D, .int .i64 wd, .int .i64 b2, .int .i64 wt], .int .i64 0]) ?_ rfl ⟨⟨_, by rw [HB.out], by rw [HB.out]; exact ⟨_, _, rfl, .inr ⟨g, by rw [HGl.out], by have := S2.out; omega, by have := S2.out; have := S3.out; have := ZZ.out; omega, GZ.out, by rw [HGl.out]; exact LF.out.1⟩, .inr ⟨h, by rw [HDD], by have := S2.out; have := S3.out; omega, by have := S3.out; have := ZZ.out; omega, HZ.out, by rw [HDD]; exact LF.out.2⟩, fun a n c b m d h1 h2 => by
        simp only [Value.slice.injEq, Option.some.injEq] at h1 h2
        rw [← h1.1, ← h2.1]; show g ≠ h; have := S2.out; have := S3.out; omega⟩⟩, BZ.out⟩
      simp [results, Try.results6, go_sem, z0, z1, z2, z3, z4]
theorem plan_any {w : World} {v vo : Value} {p : ProgZ} {o : List Int} (h : IsP w v p) (ho : IsNums w vo o) (hm : MayZ p) (hl : o.length ≤ 400) :
    Calls Try.prog 6 #[v, vo] w fun e w' => PlanPost w.heap.size (planZ p o) e w' ∧ Below w.heap.size w w' := plan_anyQ h ho hm.q hl
end Go.Proofs.Ytlmijnaimdknnaa
