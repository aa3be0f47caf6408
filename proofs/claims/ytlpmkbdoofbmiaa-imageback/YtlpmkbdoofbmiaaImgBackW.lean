/- The walk over what is written and read again, and its beginnings. -/
import Derived.Test.YtlpmkbdoofbmiaaImgWritesW
namespace Go.Proofs.Ytlpmkbdoofbmiaa
open Go.ChangeShapes Go.WideShapes Go.ChangeAt Go.RowKit
set_option linter.unusedVariables false
set_option linter.unusedSimpArgs false
theorem is_take {A : Nat → Prop} {w : World} {a : Option Addr} {c : Nat} {l : Bs} (h : IsBytes A w (.slice a l.length c) l) (k : Nat) (hk : k ≤ l.length) : IsBytes A w (.slice a k c) (l.take k) := by
  obtain ⟨⟨a', c', e, ⟨hh, hc⟩, hA, hl⟩, hb⟩ := h
  simp only [Value.slice.injEq] at e
  obtain ⟨rfl, _, rfl⟩ := e
  have hlen : (l.take k).length = k := by rw [List.length_take]; omega
  refine ⟨⟨a, c, by rw [hlen], ⟨⟨by rw [hlen]; have := hh.1; omega, hh.2⟩, hc⟩, hA, ?_⟩, fun x hx => hb x (List.mem_of_mem_take hx)⟩
  rcases hl with rfl | ⟨b, off, e, hx⟩
  · exact .inl (by simp)
  · refine .inr ⟨b, off, e, fun i x hi => hx i x ?_⟩
    rw [List.getElem?_take] at hi
    split at hi
    · exact hi
    · cases hi
set_option maxRecDepth 100000 in
set_option maxHeartbeats 8000000 in
theorem iback_walk (w : World) (v : Value) (p : ImM) (h : IsImg (fun _ => True) w v p) (v' : Value) (l : Bs) (h' : IsBytes (fun _ => True) w v' l) (x : Int) (hx : 0 ≤ x ∧ x < 65536) : Calls Try.prog 5 #[v, v', .int .u16 x] w fun e w' => e = .returned (.bool true) ∧ Below w.heap.size w w' := by
  have AW : Hid (∀ W, Calls Try.prog 7 #[] W fun e w' => e = .returned (.bool true) ∧ Below W.heap.size W w') := awake15
  obtain ⟨a, c, rfl, -, -, -⟩ := h'.row
  obtain ⟨ca, cc, da, dc, rfl, -, -⟩ := h.open
  obtain ⟨en, een⟩ : ∃ x, p.entry = x := ⟨_, rfl⟩
  obtain ⟨wt, ewt⟩ : ∃ x, p.write = x := ⟨_, rfl⟩
  obtain ⟨mo, emo⟩ : ∃ x, p.more = x := ⟨_, rfl⟩
  obtain ⟨C, eC⟩ : ∃ x, p.code.length = x := ⟨_, rfl⟩
  obtain ⟨D, eD⟩ : ∃ x, p.data.length = x := ⟨_, rfl⟩
  have EQ : Hid (p.code.length = C ∧ p.data.length = D ∧ p.entry = en ∧ p.write = wt ∧ p.more = mo) := ⟨eC, eD, een, ewt, emo⟩
  rw [een, ewt, emo, eC, eD] at h ⊢
  clear een ewt emo eC eD
  have FW : Hid (∀ W v, IsImg (fun _ => True) W v p → Calls Try.prog 8 #[v] W fun e w' => Says e (fewI p) ∧ Below W.heap.size W w') := fun W v h => small15 h
  have BC := Hid.mk9 (box_img h 25)
  have UP : Hid (Below w.heap.size w (w.alloc (.cells #[.slice ca C cc, .int .i64 en, .slice da D dc, .int .i64 wt, .int .i64 mo] 25))) := keep_alloc8 (Below.refl _ _) _
  have V0 := Hid.mk9 (h'.keep (Stay.of_below UP.out))
  have HX := Hid.mk9 hx
  clear h h' hx
  go_enter Try.func5, Try.ntmps5
  go_upto_region 1 with fail
  generalize w.alloc (.cells #[.slice ca C cc, .int .i64 en, .slice da D dc, .int .i64 wt, .int .i64 mo] 25) = w0 at BC UP V0 ⊢
  by_cases hf : fewI p
  rotate_left
  · have HF := Hid.mk9 hf
    clear hf
    go_upto_region 2 with (first
      | (go_at_call 7; refine (AW.out _).mono ?_; rintro e w1 ⟨rfl, b1⟩; obtain ⟨⟨x0, x1, x2, x3, x4⟩, ob⟩ := BC.out w1 b1)
      | (go_at_call 8; refine (FW.out _ _ ob).mono ?_; rintro e w2 ⟨hs, b2⟩; obtain rfl := hs.no HF.out; clear hs))
    go_wp2_with (go_at_call 7; refine (AW.out _).mono ?_; rintro e w3 ⟨rfl, b3⟩)
    go_ret
    exact ⟨rfl, bnext UP.out (bnext (bnext b1 b2) b3)⟩
  have HF := Hid.mk9 hf
  clear hf
  by_cases hl : (l.length : Int) ≤ 100000
  rotate_left
  · have hl' : (100000 : Int) < l.length := by omega
    go_upto_region 2 with (first
      | (go_at_call 7; refine (AW.out _).mono ?_; rintro e w1 ⟨rfl, b1⟩; obtain ⟨⟨x0, x1, x2, x3, x4⟩, ob⟩ := BC.out w1 b1)
      | (go_at_call 8; refine (FW.out _ _ ob).mono ?_; rintro e w2 ⟨hs, b2⟩; obtain rfl := hs.yes HF.out; clear hs))
    go_wp2_with (go_at_call 7; refine (AW.out _).mono ?_; rintro e w3 ⟨rfl, b3⟩)
    go_ret
    exact ⟨rfl, bnext UP.out (bnext (bnext b1 b2) b3)⟩
  have HL : Hid (l.length ≤ 100000) := by unfold Hid; omega
  go_upto_region 3 with (first
    | (go_at_call 7; refine (AW.out _).mono ?_; rintro e w1 ⟨rfl, b1⟩; obtain ⟨⟨x0, x1, x2, x3, x4⟩, ob⟩ := BC.out w1 b1)
    | (go_at_call 8; refine (FW.out _ _ ob).mono ?_; rintro e w2 ⟨hs, b2⟩; obtain rfl := hs.yes HF.out; clear hs))
  have B2 : Hid (Below w0.heap.size w0 w2) := bnext b1 b2
  clear b1 b2 x0 x1 x2 x3 x4 ob
  obtain ⟨⟨x0, x1, x2, x3, x4⟩, ob⟩ := BC.out w2 B2.out
  have CW : Hid (Calls Try.prog 9 #[.agg #[.slice ca C cc, .int .i64 en, .slice da D dc, .int .i64 wt, .int .i64 mo]] w2 (WriteI w2 p)) := iwrite ob
  by_cases hok : imgOk p
  · have OK := Hid.mk9 hok
    clear hok
    go_upto_region 5 with (go_at_call 9; refine CW.out.mono ?_; rintro e w3 ⟨h1 | ⟨h1, -⟩, b3⟩; obtain ⟨-, v3, rfl, o3⟩ := h1; rotate_left; exact absurd OK.out h1)
    have B3 : Hid (Below w0.heap.size w0 w3) := bnext B2.out b3
    have BY : Hid (Byt (imgW p)) := by obtain ⟨_, _, -, -, hd⟩ := ob; exact imgW_byt hd.2
    obtain ⟨a3, c3, rfl⟩ := own_form o3
    have V3 : Hid (IsBytes (Fresh w2.heap.size w3) w3 (.slice a3 (imgW p).length c3) (imgW p)) := own_is o3 BY.out
    have hlen := imgW_len p
    have k1 := OK.out.1.1
    have k4 := OK.out.2.2.1
    have RC : Hid (∀ k, k < (imgW p).length → (readI ((imgW p).take k)).2 ≠ 0) := fun k hk => readI_cut p OK.out BY.out k hk
    have RW : Hid (readI (imgW p) = (p, 0)) := readI_write p OK.out
    obtain ⟨T, eT⟩ : ∃ T, imgW p = T := ⟨_, rfl⟩
    obtain ⟨n, en9⟩ : ∃ n, T.length = n := ⟨_, rfl⟩
    rw [eT] at V3 hlen RC RW ⊢
    rw [en9] at V3 hlen RC ⊢
    have ET : Hid (T.length = n) := en9
    have hn1 : (24 : Int) ≤ n := by omega
    have hn2 : (n : Int) ≤ 400000 := by omega
    clear b3 x0 x1 x2 x3 x4 ob o3 CW B2 hlen k1 k4 eT en9 BY
    have CR : Hid (Calls Try.prog 13 #[.slice a3 n c3] w3 (ReadI w3 T)) := iread V3.out (by have := ET.out; omega)
    go_upto_region 6 with (go_at_call 13; refine CR.out.mono ?_; rintro e w4 ⟨⟨u, rfl, hu0⟩, b4⟩; rw [RW.out] at hu0 ⊢; dsimp only at hu0 ⊢; have hu := hu0.img; clear hu0; obtain ⟨ga, gc, ea, ec, rfl, -, -⟩ := hu.open; rw [EQ.out.1, EQ.out.2.1, EQ.out.2.2.1, EQ.out.2.2.2.1, EQ.out.2.2.2.2] at hu ⊢)
    have B4 : Hid (Below w0.heap.size w0 (w4.alloc (.cells #[.slice ga C gc, .int .i64 en, .slice ea D ec, .int .i64 wt, .int .i64 mo] 25))) := keep_alloc8 (bnext B3.out b4) _
    have V4 := Hid.mk9 ((V3.out.keep (Stay.of_below b4)).keep (Stay.of_below (keep_alloc8 (Below.refl _ _) (.cells #[.slice ga C gc, .int .i64 en, .slice ea D ec, .int .i64 wt, .int .i64 mo] 25))))
    have BQ := Hid.mk9 (box_img hu 25)
    clear b4 hu CR V3 B3 RW
    generalize w4.alloc (.cells #[.slice ga C gc, .int .i64 en, .slice ea D ec, .int .i64 wt, .int .i64 mo] 25) = w5 at BQ B4 V4 ⊢
    generalize w4.heap.size = X4 at BQ ⊢
    obtain ⟨k, hk⟩ := Int.eq_ofNat_of_zero_le (Int.emod_nonneg x (by omega : (n : Int) ≠ 0))
    have hkn : k < n := by have := Int.emod_lt_of_pos x (by omega : (0 : Int) < n); omega
    have htm : x.tmod n = k := by rw [Int.tmod_eq_emod_of_nonneg HX.out.1]; exact hk
    have hkn' : (k : Int) ≤ n := by omega
    have S1 : ∀ W, (Instr.slice 23 (.slice a3 n c3) none (some (.int .i64 (k : Int))) none).run Try.prog W = .ok (.slice a3 k c3) W := fun W => slice_first9 W a3 n c3 k (by omega) (by obtain ⟨a', c', e, hh, -⟩ := V4.out.1; simp only [Value.slice.injEq] at e; have := hh.1.1; have := ET.out; omega)
    have hw : IntKind.i64.wrap x = x := wrap_small HX.out.1 (by have := HX.out.2; omega)
    have CR : Hid (Calls Try.prog 13 #[.slice a3 k c3] w5 (ReadI w5 (T.take k))) := iread (is_take (by have h := V4.out; rwa [← ET.out] at h) k (by have := ET.out; omega)) (by rw [List.length_take]; have := ET.out; omega)
    have hg := RC.out k hkn
    have hq := (readI_kind (T.take k)).2 hg
    obtain ⟨eg, eeg⟩ : ∃ e, (readI (T.take k)).2 = e := ⟨_, rfl⟩
    unfold ReadI at CR
    rw [hq] at CR
    rw [eeg] at CR hg
    have ng : (eg == 0) = false := by simpa using hg
    clear hg hq eeg hk hkn V4 RC
    go_upto_region 7 with (go_at_call 13; refine CR.out.mono ?_; rintro e w6 ⟨⟨u, rfl, hu⟩, b6⟩; obtain ⟨ha, hc, ia, ic, rfl⟩ := noIm_open hu; clear hu)
    have B6 : Hid (Below w5.heap.size w5 (w6.alloc (.cells #[.slice ha 0 hc, .int .i64 0, .slice ia 0 ic, .int .i64 0, .int .i64 0] 25))) := keep_alloc8 b6 _
    generalize w6.alloc (.cells #[.slice ha 0 hc, .int .i64 0, .slice ia 0 ic, .int .i64 0, .int .i64 0] 25) = w7 at B6 ⊢
    obtain ⟨⟨x0, x1, x2, x3, x4⟩, ob⟩ := BC.out w7 (bnext B4.out B6.out)
    obtain ⟨⟨y0, y1, y2, y3, y4⟩, oq⟩ := BQ.out w7 B6.out
    have RS := Hid.mk9 (rsame14_any oq ob)
    clear ob oq S1 htm hw CR b6 BQ
    go_upto_region 9 with (go_at_call 15; refine RS.out.mono ?_; rintro e W0 ⟨hs, b7⟩; obtain rfl := hs.yes (by first | rfl | trivial); clear hs)
    have BW : Hid (Below w.heap.size w W0) := bnext UP.out (bnext (bnext B4.out B6.out) b7)
    have VB : Hid (IsBytes (fun _ => True) W0 (.slice a l.length c) l) := V0.out.keep (Stay.of_below (bnext (bnext B4.out B6.out) b7))
    clear b7 x0 x1 x2 x3 x4 y0 y1 y2 y3 y4 RS B4 B6 ng
    have CR2 : Hid (Calls Try.prog 13 #[.slice a l.length c] W0 (ReadI W0 l)) := iread VB.out (by have := HL.out; omega)
    go_upto_region 10 with (go_at_call 13; refine CR2.out.mono ?_; rintro e w7 ⟨⟨u, rfl, hu0⟩, b7⟩; have hu := hu0.img; clear hu0; obtain ⟨ga, gc, ea, ec, rfl, -, -⟩ := hu.open)
    have hr := readI_kind l
    have hb9 := readI_back l VB.out.2
    obtain ⟨q, eq⟩ : ∃ q, (readI l).1 = q := ⟨_, rfl⟩
    obtain ⟨er, eer⟩ : ∃ q, (readI l).2 = q := ⟨_, rfl⟩
    rw [eq] at hu hr hb9 ⊢
    rw [eer] at hr hb9 ⊢
    have VB7 := Hid.mk9 ((VB.out.keep (Stay.of_below b7)).keep (Stay.of_below (keep_alloc8 (Below.refl _ _) (.cells #[.slice ga q.code.length gc, .int .i64 q.entry, .slice ea q.data.length ec, .int .i64 q.write, .int .i64 q.more] 25))))
    have B7 : Hid (Below w.heap.size w (w7.alloc (.cells #[.slice ga q.code.length gc, .int .i64 q.entry, .slice ea q.data.length ec, .int .i64 q.write, .int .i64 q.more] 25))) := keep_alloc8 (bnext BW.out b7) _
    obtain ⟨⟨y0, y1, y2, y3, y4⟩, oq⟩ := box_img hu 25 _ (Below.refl _ _)
    have OQ := Hid.mk9 oq
    clear hu b7 CR2 VB BW eq eer oq
    generalize w7.alloc (.cells #[.slice ga q.code.length gc, .int .i64 q.entry, .slice ea q.data.length ec, .int .i64 q.write, .int .i64 q.more] 25) = w8 at VB7 B7 y0 y1 y2 y3 y4 OQ ⊢
    generalize w7.heap.size = X7 at y0 y1 y2 y3 y4 ⊢
    by_cases he : er = 0
    · subst he
      obtain ⟨e1, ok⟩ := hb9 rfl
      have OK := Hid.mk9 (And.intro ok e1)
      have CW := Hid.mk9 (iwrite OQ.out)
      clear e1 ok hr hb9
      go_upto_region 13 with (go_at_call 9; refine CW.out.mono ?_; rintro e w9 ⟨h1 | ⟨h1, -⟩, b9⟩; obtain ⟨-, v9, rfl, o9⟩ := h1; rotate_left; exact absurd OK.out.1 h1)
      have BY : Byt (imgW q) := by obtain ⟨_, _, -, -, hd⟩ := OQ.out; exact imgW_byt hd.2
      have SM : Hid (Calls Try.prog 11 #[v9, .slice a l.length c] w9 fun e w' => Says e (imgW q = l) ∧ Below w9.heap.size w9 w') := rbytes_any (own_is o9 BY) (VB7.out.keep (Stay.of_below b9))
      clear BY o9
      go_wp2_with (go_at_call 11; refine SM.out.mono ?_; rintro e w10 ⟨hs, b10⟩; obtain rfl := hs.yes OK.out.2.symm)
      go_ret
      exact ⟨rfl, bnext B7.out (bnext b9 b10)⟩
    · have ne : (er != 0) = true := by simpa using he
      have HQ : Hid (q = noIm) := hr.2 he
      have CS : Hid (Calls Try.prog 15 #[.agg #[.slice ga q.code.length gc, .int .i64 q.entry, .slice ea q.data.length ec, .int .i64 q.write, .int .i64 q.more], .agg #[.slice none 0 0, .int .i64 0, .slice none 0 0, .int .i64 0, .int .i64 0]] w8 fun e w' => Says e (q = noIm) ∧ Below w8.heap.size w8 w') := rsame14_any OQ.out (nil_img (fun _ => True) w8)
      clear he hr hb9
      go_wp2_with (go_at_call 15; refine CS.out.mono ?_; rintro e w9 ⟨hs, b9⟩; obtain rfl := hs.yes HQ.out)
      go_ret
      exact ⟨rfl, bnext B7.out b9⟩
  · have OK := Hid.mk9 hok
    clear hok
    go_upto_region 9 with (go_at_call 9; refine CW.out.mono ?_; rintro e W0 ⟨⟨h1, -⟩ | h1, b3⟩; exact absurd h1 OK.out; obtain ⟨-, a3, c3, rfl⟩ := h1)
    have BW : Hid (Below w.heap.size w W0) := bnext UP.out (bnext B2.out b3)
    have VB : Hid (IsBytes (fun _ => True) W0 (.slice a l.length c) l) := V0.out.keep (Stay.of_below (bnext B2.out b3))
    clear b3 x0 x1 x2 x3 x4 ob CW B2
    have CR2 : Hid (Calls Try.prog 13 #[.slice a l.length c] W0 (ReadI W0 l)) := iread VB.out (by have := HL.out; omega)
    go_upto_region 10 with (go_at_call 13; refine CR2.out.mono ?_; rintro e w7 ⟨⟨u, rfl, hu0⟩, b7⟩; have hu := hu0.img; clear hu0; obtain ⟨ga, gc, ea, ec, rfl, -, -⟩ := hu.open)
    have hr := readI_kind l
    have hb9 := readI_back l VB.out.2
    obtain ⟨q, eq⟩ : ∃ q, (readI l).1 = q := ⟨_, rfl⟩
    obtain ⟨er, eer⟩ : ∃ q, (readI l).2 = q := ⟨_, rfl⟩
    rw [eq] at hu hr hb9 ⊢
    rw [eer] at hr hb9 ⊢
    have VB7 := Hid.mk9 ((VB.out.keep (Stay.of_below b7)).keep (Stay.of_below (keep_alloc8 (Below.refl _ _) (.cells #[.slice ga q.code.length gc, .int .i64 q.entry, .slice ea q.data.length ec, .int .i64 q.write, .int .i64 q.more] 25))))
    have B7 : Hid (Below w.heap.size w (w7.alloc (.cells #[.slice ga q.code.length gc, .int .i64 q.entry, .slice ea q.data.length ec, .int .i64 q.write, .int .i64 q.more] 25))) := keep_alloc8 (bnext BW.out b7) _
    obtain ⟨⟨y0, y1, y2, y3, y4⟩, oq⟩ := box_img hu 25 _ (Below.refl _ _)
    have OQ := Hid.mk9 oq
    clear hu b7 CR2 VB BW eq eer oq
    generalize w7.alloc (.cells #[.slice ga q.code.length gc, .int .i64 q.entry, .slice ea q.data.length ec, .int .i64 q.write, .int .i64 q.more] 25) = w8 at VB7 B7 y0 y1 y2 y3 y4 OQ ⊢
    generalize w7.heap.size = X7 at y0 y1 y2 y3 y4 ⊢
    by_cases he : er = 0
    · subst he
      obtain ⟨e1, ok⟩ := hb9 rfl
      have OK := Hid.mk9 (And.intro ok e1)
      have CW := Hid.mk9 (iwrite OQ.out)
      clear e1 ok hr hb9
      go_upto_region 13 with (go_at_call 9; refine CW.out.mono ?_; rintro e w9 ⟨h1 | ⟨h1, -⟩, b9⟩; obtain ⟨-, v9, rfl, o9⟩ := h1; rotate_left; exact absurd OK.out.1 h1)
      have BY : Byt (imgW q) := by obtain ⟨_, _, -, -, hd⟩ := OQ.out; exact imgW_byt hd.2
      have SM : Hid (Calls Try.prog 11 #[v9, .slice a l.length c] w9 fun e w' => Says e (imgW q = l) ∧ Below w9.heap.size w9 w') := rbytes_any (own_is o9 BY) (VB7.out.keep (Stay.of_below b9))
      clear BY o9
      go_wp2_with (go_at_call 11; refine SM.out.mono ?_; rintro e w10 ⟨hs, b10⟩; obtain rfl := hs.yes OK.out.2.symm)
      go_ret
      exact ⟨rfl, bnext B7.out (bnext b9 b10)⟩
    · have ne : (er != 0) = true := by simpa using he
      have HQ : Hid (q = noIm) := hr.2 he
      have CS : Hid (Calls Try.prog 15 #[.agg #[.slice ga q.code.length gc, .int .i64 q.entry, .slice ea q.data.length ec, .int .i64 q.write, .int .i64 q.more], .agg #[.slice none 0 0, .int .i64 0, .slice none 0 0, .int .i64 0, .int .i64 0]] w8 fun e w' => Says e (q = noIm) ∧ Below w8.heap.size w8 w') := rsame14_any OQ.out (nil_img (fun _ => True) w8)
      clear he hr hb9
      go_wp2_with (go_at_call 15; refine CS.out.mono ?_; rintro e w9 ⟨hs, b9⟩; obtain rfl := hs.yes HQ.out)
      go_ret
      exact ⟨rfl, bnext B7.out b9⟩
end Go.Proofs.Ytlpmkbdoofbmiaa
