/- What the code takes of bytes: lists of functions, data and notes. -/
import Derived.Test.YtcbhnpjaaaefiaaObjTk4
namespace Go.Proofs.Ytcbhnpjaaaefiaa
open Go.ChangeShapes Go.WideShapes Go.ChangeAt Go.RowKit
set_option linter.unusedVariables false
set_option linter.unusedSimpArgs false
section
variable {O : Nat → Prop} {w : World} {v : Value} {b : Bs}
set_option maxRecDepth 100000 in
set_option maxHeartbeats 2000000 in
theorem tk_funcs (h : Sk O w v b) (m : Nat) (hm : m ≤ 65535) : Calls Try.prog 68 #[v, .int .i64 m, .func (.func 69) #[] #[]] w (Took O w v (listR m funcR (.good b)) fun x w' u => IsFuncs (Fresh w.heap.size w') w' u x) := by
  have CT : Hid (Calls Try.prog 89 #[v, .int .i64 m] w (Took O w v (countR m (.good b)) fun x _ u => ∃ N : Nat, u = .int .i64 N ∧ x = N ∧ N ≤ m)) := sk_count h m hm
  have TF : Hid (∀ W b1, Sk O W v b1 → Calls Try.prog 69 #[v] W (Took O W v (funcR (.good b1)) (fun x w' u => ∃ vc vr, u = .agg #[.string x.name, .int .i64 x.bind, vc, vr] ∧ IsWords (Fresh W.heap.size w') w' vc x.code ∧ IsRels (Fresh W.heap.size w') w' vr x.rels ∧ x.name.size ≤ maxLen))) := fun W b1 hW => tk_func hW
  have HLT : Hid (∀ k, O k → k < w.heap.size) := h.lt
  have HM : Hid (m ≤ 65535) := hm
  obtain ⟨g, rfl, hg⟩ := h.ptr
  clear h
  obtain ⟨i2, hi0, hz0, hz1, hz2⟩ := info_parts infoFunc
  go_enter Try.func68, Try.ntmps68
  go_wp2_with (go_at_call 89; refine CT.out.mono ?_; rintro e w1 ⟨⟨x1, b1, u, hr1, rfl, ⟨N, rfl, hN, hN2⟩, hS1⟩ | ⟨x1, er, hr1, rfl⟩, hA1⟩)
  rotate_left
  · refine ⟨rfl, .inr ?_, hA1⟩
    obtain ⟨y, hy⟩ : ∃ y, listR m funcR (.good b) = (y, .bad er) := bind_bad (fun _ => keeps_times _ _) hr1.out
    exact ⟨y, er, hy, rfl⟩
  have HR1 : Hid (listR m funcR (.good b) = timesR funcR N (.good b1)) := by
    have h := hr1.out
    unfold listR
    rw [bind_fwd h, hN, Int.toNat_natCast]; exact Hid.mk0 rfl
  have HNN : Hid (N ≤ m) := hN2
  clear CT hr1 hN hN2
  go_loopw [7, 11] (fun lv iv wr => ∃ (k : Nat) (L : List FX) (n : Nat) (b' : Bs), k ≤ N ∧ iv = .int .i64 k ∧ L.length = k ∧ Sk O wr (.pointer (some ⟨g, 0, none⟩)) b' ∧ Gr FE fxC 49 4 w.heap.size n lv L wr ∧ timesR funcR N (.good b1) = ((L.map Prod.fst) ++ (timesR funcR (N - k) (.good b')).1, (timesR funcR (N - k) (.good b')).2) ∧ Apart O w wr) (fun _ iv _ => N - (intOf iv).toNat)
  case atStart => exact ⟨0, [], w.heap.size, b1, Nat.zero_le _, rfl, rfl, hS1, Gr.nil hA1.size, rfl, hA1⟩
  case round =>
    obtain ⟨k, L, n, b', hk, rfl, hL, hS, hG, htm, hA⟩ := hrel
    have HS : Hid (Sk O wr (.pointer (some ⟨g, 0, none⟩)) b') := hS
    have HTM : Hid (timesR funcR N (.good b1) = ((L.map Prod.fst) ++ (timesR funcR (N - k) (.good b')).1, (timesR funcR (N - k) (.good b')).2)) := htm
    have HA : Hid (Apart O w wr) := hA
    have HL : Hid (L.length = k) := hL
    obtain ⟨a0, c0, rfl⟩ := own_form hG.own
    have HG : Hid (Gr FE fxC 49 4 w.heap.size n (.slice a0 L.length c0) L wr) := hG
    clear hS1 hA1 hS hG htm hA hL
    by_cases hlt : k < N
    · have hlt' : (k : Int) < N := by omega
      have hN9 : (N : Int) ≤ 65535 := by have := HNN.out; have := HM.out; omega
      go_wp2_with (first
        | (go_at_call 69; refine (TF.out _ _ HS.out).mono ?_; rintro e w2 ⟨⟨⟨xn, xb, xc, xr⟩, b2, u, hr2, rfl, ⟨vc, vr, rfl, hc, hv, hn⟩, hS2⟩ | ⟨x, er, hr2, rfl⟩, hA2⟩; all_goals (try (dsimp only at hc hv hn; obtain ⟨ca, cc, rfl, -, -, -⟩ := LstA.open (id hc.1); obtain ⟨va, vcc, rfl, -, -, -⟩ := LstA.open (id hv); have HE : Hid (FE (Fresh wr.heap.size w2) w2 (⟨xn, xb, xc, xr⟩, .slice ca xc.length cc, .slice va xr.length vcc)) := ⟨hc, hv, hn⟩; clear hc hv hn)))
        | (at_builtin; refine wpList_append_one _ rfl (.tmp 13) (.tmp 17) 22 rfl w.heap.size 49 i2 _ 4 72 Try.underlying22 hi0 hz0 hz1 hz2 rfl (by decide) (.slice a0 L.length c0) L.length (L.flatMap fxC) rfl ((gr_after FE.ek HG.out hA2 HLT.out).later FE.ek (keep_alloc8 (Below.refl _ _) _)).own ⟨w2.heap.size, 0, none⟩ 1 (fxC ((⟨xn, xb, xc, xr⟩, .slice ca xc.length cc, .slice va xr.length vcc) : FX)) rfl rfl (fun j u hu => news_new w2 #[.string xn, .int .i64 xb, .slice ca xc.length cc, .slice va xr.length vcc] 49 (fxC ((⟨xn, xb, xc, xr⟩, .slice ca xc.length cc, .slice va xr.length vcc) : FX)) rfl _ rfl j u hu) (by intro u hu; simp [fxC] at hu; rcases hu with rfl | rfl | rfl | rfl <;> rfl) (by have := HL.out; unfold maxLen; omega) (by have := HL.out; omega) (Nat.le_trans HA.out.size (Nat.le_trans hA2.size (keep_alloc8 (Below.refl _ _) _).size)) ?_; intro a9 c9 w3 own9 grow9 wh9))
      · go_roundw
        case rel =>
          have up := keep_alloc8 (Below.refl _ w2) (.cells #[.string xn, .int .i64 xb, .slice ca xc.length cc, .slice va xr.length vcc] 49)
          have G2 := (gr_after FE.ek HG.out hA2 HLT.out).later FE.ek up
          have far : ∀ q, (Value.slice a0 L.length c0).ownBlock = some q → w.heap.size ≤ q := fun q hq => (own_oct HG.out.own q hq).1
          exact ⟨k + 1, L ++ [((⟨xn, xb, xc, xr⟩, .slice ca xc.length cc, .slice va xr.length vcc) : FX)], w3.heap.size, b2, by omega, by go_num, by rw [List.length_append, HL.out]; rfl, (hS2.later up).keep grow9.size (fun j h1 h2 => grow9.block j h1 fun e => by have := far j e.symm; have := HLT.out j h2; omega),
            G2.more FE.ek (x := ((⟨xn, xb, xc, xr⟩, .slice ca xc.length cc, .slice va xr.length vcc) : FX)) (A := Fresh wr.heap.size w2) (FE.ek.keep _ _ _ _ HE.out (Stay.of_below up)) (fun j hj => ⟨Nat.le_trans HG.out.le.2 hj.1, Nat.lt_of_lt_of_le hj.2 up.size⟩) own9 grow9 wh9, (by rw [List.map_append]; exact times_more HTM.out hr2.out hlt),
            apart_grown ((HA.out.same hA2).then up) grow9 far⟩
        case measure => simp [intOf]; omega
      · refine ⟨rfl, .inr ?_, HA.out.same hA2⟩
        obtain ⟨y, hy⟩ := times_fail HTM.out hr2.out hlt
        exact ⟨y, er, by rw [HR1.out]; exact Hid.mk0 hy, rfl⟩
    · obtain rfl : k = N := by omega
      go_wp2
      go_ret
      have e1 := HTM.out
      rw [Nat.sub_self] at e1
      exact ⟨.inl ⟨(L.map Prod.fst), b', _, by rw [HR1.out, e1]; exact Hid.mk0 (times_nil _ _ _), rfl, HG.out.funcs, HS.out⟩, HA.out⟩
set_option maxRecDepth 100000 in
set_option maxHeartbeats 2000000 in
theorem tk_datas (h : Sk O w v b) (m : Nat) (hm : m ≤ 65535) : Calls Try.prog 70 #[v, .int .i64 m, .func (.func 71) #[] #[]] w (Took O w v (listR m dataR (.good b)) fun x w' u => ∃ (L : List DX) (n : Nat), x = L.map Prod.fst ∧ Gr DEx dxC 44 7 w.heap.size n u L w') := by
  have CT : Hid (Calls Try.prog 89 #[v, .int .i64 m] w (Took O w v (countR m (.good b)) fun x _ u => ∃ N : Nat, u = .int .i64 N ∧ x = N ∧ N ≤ m)) := sk_count h m hm
  have TF : Hid (∀ W b1, Sk O W v b1 → Calls Try.prog 71 #[v] W (Took O W v (dataR (.good b1)) (fun x w' u => ∃ vb vr, u = .agg #[.string x.name, .int .i64 x.bind, .int .i64 x.align, .bool x.fixed, .int .i64 x.size, vb, vr] ∧ (IsBytes (Fresh W.heap.size w') w' vb x.bytes ∧ LooseB w' vb) ∧ IsRels (Fresh W.heap.size w') w' vr x.rels ∧ x.name.size ≤ maxLen))) := fun W b1 hW => tk_data hW
  have HLT : Hid (∀ k, O k → k < w.heap.size) := h.lt
  have HM : Hid (m ≤ 65535) := hm
  obtain ⟨g, rfl, hg⟩ := h.ptr
  clear h
  obtain ⟨i2, hi0, hz0, hz1, hz2⟩ := info_parts infoData
  go_enter Try.func70, Try.ntmps70
  go_wp2_with (go_at_call 89; refine CT.out.mono ?_; rintro e w1 ⟨⟨x1, b1, u, hr1, rfl, ⟨N, rfl, hN, hN2⟩, hS1⟩ | ⟨x1, er, hr1, rfl⟩, hA1⟩)
  rotate_left
  · refine ⟨rfl, .inr ?_, hA1⟩
    obtain ⟨y, hy⟩ : ∃ y, listR m dataR (.good b) = (y, .bad er) := bind_bad (fun _ => keeps_times _ _) hr1.out
    exact ⟨y, er, hy, rfl⟩
  have HR1 : Hid (listR m dataR (.good b) = timesR dataR N (.good b1)) := by
    have h := hr1.out
    unfold listR
    rw [bind_fwd h, hN, Int.toNat_natCast]; exact Hid.mk0 rfl
  have HNN : Hid (N ≤ m) := hN2
  clear CT hr1 hN hN2
  go_loopw [7, 11] (fun lv iv wr => ∃ (k : Nat) (L : List DX) (n : Nat) (b' : Bs), k ≤ N ∧ iv = .int .i64 k ∧ L.length = k ∧ Sk O wr (.pointer (some ⟨g, 0, none⟩)) b' ∧ Gr DEx dxC 44 7 w.heap.size n lv L wr ∧ timesR dataR N (.good b1) = ((L.map Prod.fst) ++ (timesR dataR (N - k) (.good b')).1, (timesR dataR (N - k) (.good b')).2) ∧ Apart O w wr) (fun _ iv _ => N - (intOf iv).toNat)
  case atStart => exact ⟨0, [], w.heap.size, b1, Nat.zero_le _, rfl, rfl, hS1, Gr.nil hA1.size, rfl, hA1⟩
  case round =>
    obtain ⟨k, L, n, b', hk, rfl, hL, hS, hG, htm, hA⟩ := hrel
    have HS : Hid (Sk O wr (.pointer (some ⟨g, 0, none⟩)) b') := hS
    have HTM : Hid (timesR dataR N (.good b1) = ((L.map Prod.fst) ++ (timesR dataR (N - k) (.good b')).1, (timesR dataR (N - k) (.good b')).2)) := htm
    have HA : Hid (Apart O w wr) := hA
    have HL : Hid (L.length = k) := hL
    obtain ⟨a0, c0, rfl⟩ := own_form hG.own
    have HG : Hid (Gr DEx dxC 44 7 w.heap.size n (.slice a0 L.length c0) L wr) := hG
    clear hS1 hA1 hS hG htm hA hL
    by_cases hlt : k < N
    · have hlt' : (k : Int) < N := by omega
      have hN9 : (N : Int) ≤ 65535 := by have := HNN.out; have := HM.out; omega
      go_wp2_with (first
        | (go_at_call 71; refine (TF.out _ _ HS.out).mono ?_; rintro e w2 ⟨⟨⟨xn, xb, xa, xf, xs, xc, xr⟩, b2, u, hr2, rfl, ⟨vc, vr, rfl, hc, hv, hn⟩, hS2⟩ | ⟨x, er, hr2, rfl⟩, hA2⟩; all_goals (try (dsimp only at hc hv hn; obtain ⟨ca, cc, rfl, -, -, -⟩ := LstA.open (id hc.1.1); obtain ⟨va, vcc, rfl, -, -, -⟩ := LstA.open (id hv); have HE : Hid (DEx (Fresh wr.heap.size w2) w2 (⟨xn, xb, xa, xf, xs, xc, xr⟩, .slice ca xc.length cc, .slice va xr.length vcc)) := ⟨⟨hc.1, hv, hn⟩, hc.2⟩; clear hc hv hn)))
        | (at_builtin; refine wpList_append_one _ rfl (.tmp 13) (.tmp 17) 23 rfl w.heap.size 44 i2 _ 7 96 Try.underlying23 hi0 hz0 hz1 hz2 rfl (by decide) (.slice a0 L.length c0) L.length (L.flatMap dxC) rfl ((gr_after DEx.ek HG.out hA2 HLT.out).later DEx.ek (keep_alloc8 (Below.refl _ _) _)).own ⟨w2.heap.size, 0, none⟩ 1 (dxC ((⟨xn, xb, xa, xf, xs, xc, xr⟩, .slice ca xc.length cc, .slice va xr.length vcc) : DX)) rfl rfl (fun j u hu => news_new w2 #[.string xn, .int .i64 xb, .int .i64 xa, .bool xf, .int .i64 xs, .slice ca xc.length cc, .slice va xr.length vcc] 44 (dxC ((⟨xn, xb, xa, xf, xs, xc, xr⟩, .slice ca xc.length cc, .slice va xr.length vcc) : DX)) rfl _ rfl j u hu) (by intro u hu; simp [dxC] at hu; rcases hu with rfl | rfl | rfl | rfl | rfl | rfl | rfl <;> rfl) (by have := HL.out; unfold maxLen; omega) (by have := HL.out; omega) (Nat.le_trans HA.out.size (Nat.le_trans hA2.size (keep_alloc8 (Below.refl _ _) _).size)) ?_; intro a9 c9 w3 own9 grow9 wh9))
      · go_roundw
        case rel =>
          have up := keep_alloc8 (Below.refl _ w2) (.cells #[.string xn, .int .i64 xb, .int .i64 xa, .bool xf, .int .i64 xs, .slice ca xc.length cc, .slice va xr.length vcc] 44)
          have G2 := (gr_after DEx.ek HG.out hA2 HLT.out).later DEx.ek up
          have far : ∀ q, (Value.slice a0 L.length c0).ownBlock = some q → w.heap.size ≤ q := fun q hq => (own_oct HG.out.own q hq).1
          exact ⟨k + 1, L ++ [((⟨xn, xb, xa, xf, xs, xc, xr⟩, .slice ca xc.length cc, .slice va xr.length vcc) : DX)], w3.heap.size, b2, by omega, by go_num, by rw [List.length_append, HL.out]; rfl, (hS2.later up).keep grow9.size (fun j h1 h2 => grow9.block j h1 fun e => by have := far j e.symm; have := HLT.out j h2; omega),
            G2.more DEx.ek (x := ((⟨xn, xb, xa, xf, xs, xc, xr⟩, .slice ca xc.length cc, .slice va xr.length vcc) : DX)) (A := Fresh wr.heap.size w2) (DEx.ek.keep _ _ _ _ HE.out (Stay.of_below up)) (fun j hj => ⟨Nat.le_trans HG.out.le.2 hj.1, Nat.lt_of_lt_of_le hj.2 up.size⟩) own9 grow9 wh9, (by rw [List.map_append]; exact times_more HTM.out hr2.out hlt),
            apart_grown ((HA.out.same hA2).then up) grow9 far⟩
        case measure => simp [intOf]; omega
      · refine ⟨rfl, .inr ?_, HA.out.same hA2⟩
        obtain ⟨y, hy⟩ := times_fail HTM.out hr2.out hlt
        exact ⟨y, er, by rw [HR1.out]; exact Hid.mk0 hy, rfl⟩
    · obtain rfl : k = N := by omega
      go_wp2
      go_ret
      have e1 := HTM.out
      rw [Nat.sub_self] at e1
      exact ⟨.inl ⟨(L.map Prod.fst), b', _, by rw [HR1.out, e1]; exact Hid.mk0 (times_nil _ _ _), rfl, ⟨L, n, rfl, HG.out⟩, HS.out⟩, HA.out⟩
set_option maxRecDepth 100000 in
set_option maxHeartbeats 2000000 in
theorem tk_notes (h : Sk O w v b) (m : Nat) (hm : m ≤ 65535) : Calls Try.prog 72 #[v, .int .i64 m, .func (.func 73) #[] #[]] w (Took O w v (listR m noteR (.good b)) fun x w' u => IsNotes (Fresh w.heap.size w') w' u x) := by
  have CT : Hid (Calls Try.prog 89 #[v, .int .i64 m] w (Took O w v (countR m (.good b)) fun x _ u => ∃ N : Nat, u = .int .i64 N ∧ x = N ∧ N ≤ m)) := sk_count h m hm
  have TF : Hid (∀ W b1, Sk O W v b1 → Calls Try.prog 73 #[v] W (Took O W v (noteR (.good b1)) (fun x _ u => u = .agg #[.string x.name, .int .i64 x.kind] ∧ x.name.size ≤ maxLen))) := fun W b1 hW => tk_note hW
  have HLT : Hid (∀ k, O k → k < w.heap.size) := h.lt
  have HM : Hid (m ≤ 65535) := hm
  obtain ⟨g, rfl, hg⟩ := h.ptr
  clear h
  obtain ⟨i2, hi0, hz0, hz1, hz2⟩ := info_parts infoNote
  go_enter Try.func72, Try.ntmps72
  go_wp2_with (go_at_call 89; refine CT.out.mono ?_; rintro e w1 ⟨⟨x1, b1, u, hr1, rfl, ⟨N, rfl, hN, hN2⟩, hS1⟩ | ⟨x1, er, hr1, rfl⟩, hA1⟩)
  rotate_left
  · refine ⟨rfl, .inr ?_, hA1⟩
    obtain ⟨y, hy⟩ : ∃ y, listR m noteR (.good b) = (y, .bad er) := bind_bad (fun _ => keeps_times _ _) hr1.out
    exact ⟨y, er, hy, rfl⟩
  have HR1 : Hid (listR m noteR (.good b) = timesR noteR N (.good b1)) := by
    have h := hr1.out
    unfold listR
    rw [bind_fwd h, hN, Int.toNat_natCast]; exact Hid.mk0 rfl
  have HNN : Hid (N ≤ m) := hN2
  clear CT hr1 hN hN2
  go_loopw [7, 11] (fun lv iv wr => ∃ (k : Nat) (L : List NoteM) (n : Nat) (b' : Bs), k ≤ N ∧ iv = .int .i64 k ∧ L.length = k ∧ Sk O wr (.pointer (some ⟨g, 0, none⟩)) b' ∧ Gr NE noteC 46 2 w.heap.size n lv L wr ∧ timesR noteR N (.good b1) = (L ++ (timesR noteR (N - k) (.good b')).1, (timesR noteR (N - k) (.good b')).2) ∧ Apart O w wr) (fun _ iv _ => N - (intOf iv).toNat)
  case atStart => exact ⟨0, [], w.heap.size, b1, Nat.zero_le _, rfl, rfl, hS1, Gr.nil hA1.size, rfl, hA1⟩
  case round =>
    obtain ⟨k, L, n, b', hk, rfl, hL, hS, hG, htm, hA⟩ := hrel
    have HS : Hid (Sk O wr (.pointer (some ⟨g, 0, none⟩)) b') := hS
    have HTM : Hid (timesR noteR N (.good b1) = (L ++ (timesR noteR (N - k) (.good b')).1, (timesR noteR (N - k) (.good b')).2)) := htm
    have HA : Hid (Apart O w wr) := hA
    have HL : Hid (L.length = k) := hL
    obtain ⟨a0, c0, rfl⟩ := own_form hG.own
    have HG : Hid (Gr NE noteC 46 2 w.heap.size n (.slice a0 L.length c0) L wr) := hG
    clear hS1 hA1 hS hG htm hA hL
    by_cases hlt : k < N
    · have hlt' : (k : Int) < N := by omega
      have hN9 : (N : Int) ≤ 65535 := by have := HNN.out; have := HM.out; omega
      go_wp2_with (first
        | (go_at_call 73; refine (TF.out _ _ HS.out).mono ?_; rintro e w2 ⟨⟨⟨xn, xk⟩, b2, u, hr2, rfl, ⟨rfl, hn9⟩, hS2⟩ | ⟨x, er, hr2, rfl⟩, hA2⟩; all_goals (try have hn := Hid.mk0 hn9); all_goals (try clear hn9))
        | (at_builtin; refine wpList_append_one _ rfl (.tmp 13) (.tmp 17) 24 rfl w.heap.size 46 i2 _ 2 24 Try.underlying24 hi0 hz0 hz1 hz2 rfl (by decide) (.slice a0 L.length c0) L.length (L.flatMap noteC) rfl ((gr_after NE.ek HG.out hA2 HLT.out).later NE.ek (keep_alloc8 (Below.refl _ _) _)).own ⟨w2.heap.size, 0, none⟩ 1 (noteC (NoteM.mk xn xk)) rfl rfl (fun j u hu => news_new w2 #[.string xn, .int .i64 xk] 46 (noteC (NoteM.mk xn xk)) rfl _ rfl j u hu) (by intro u hu; simp [noteC] at hu; rcases hu with rfl | rfl <;> rfl) (by have := HL.out; unfold maxLen; omega) (by have := HL.out; omega) (Nat.le_trans HA.out.size (Nat.le_trans hA2.size (keep_alloc8 (Below.refl _ _) _).size)) ?_; intro a9 c9 w3 own9 grow9 wh9))
      · go_roundw
        case rel =>
          have up := keep_alloc8 (Below.refl _ w2) (.cells #[.string xn, .int .i64 xk] 46)
          have G2 := (gr_after NE.ek HG.out hA2 HLT.out).later NE.ek up
          have far : ∀ q, (Value.slice a0 L.length c0).ownBlock = some q → w.heap.size ≤ q := fun q hq => (own_oct HG.out.own q hq).1
          exact ⟨k + 1, L ++ [(NoteM.mk xn xk)], w3.heap.size, b2, by omega, by go_num, by rw [List.length_append, HL.out]; rfl, (hS2.later up).keep grow9.size (fun j h1 h2 => grow9.block j h1 fun e => by have := far j e.symm; have := HLT.out j h2; omega),
            G2.more NE.ek (x := (NoteM.mk xn xk)) (A := Fresh wr.heap.size w2) (show NE (Fresh wr.heap.size w2) _ (NoteM.mk xn xk) from hn.out) (fun j hj => ⟨Nat.le_trans HG.out.le.2 hj.1, Nat.lt_of_lt_of_le hj.2 up.size⟩) own9 grow9 wh9, times_more HTM.out hr2.out hlt,
            apart_grown ((HA.out.same hA2).then up) grow9 far⟩
        case measure => simp [intOf]; omega
      · refine ⟨rfl, .inr ?_, HA.out.same hA2⟩
        obtain ⟨y, hy⟩ := times_fail HTM.out hr2.out hlt
        exact ⟨y, er, by rw [HR1.out]; exact Hid.mk0 hy, rfl⟩
    · obtain rfl : k = N := by omega
      go_wp2
      go_ret
      have e1 := HTM.out
      rw [Nat.sub_self] at e1
      exact ⟨.inl ⟨L, b', _, by rw [HR1.out, e1]; exact Hid.mk0 (times_nil _ _ _), rfl, HG.out.notes, HS.out⟩, HA.out⟩
end
end Go.Proofs.Ytcbhnpjaaaefiaa
