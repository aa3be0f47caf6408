/- What the code's own takeImage returns. -/
import Derived.Test.YtlpmkbdoofbmiaaImgTk
namespace Go.Proofs.Ytlpmkbdoofbmiaa
open Go.ChangeShapes Go.WideShapes Go.ChangeAt Go.RowKit
set_option linter.unusedVariables false
set_option linter.unusedSimpArgs false
theorem results_img1 {fn : Func} {p : Tmp} (h : fn.results = #[.cell p 25]) (tmps : Array Value) (g : Nat) (hp : tmps.getD p undef = .pointer (some ⟨g, 0, none⟩)) (W : World) (a b c d e : Value) (hA : XAt W g [a, b, c, d, e]) :
    (results fn tmps).run Try.prog W = .ok (.agg #[a, b, c, d, e]) W := by
  have hp' : tmps[p]?.getD undef = .pointer (some ⟨g, 0, none⟩) := by simpa using hp
  have e := run_loadVar_mid (P := Try.prog) W g 0 25 [a, b, c, d, e] _ (fun j v hv => by rw [Nat.zero_add]; exact hA.1 j v hv) Try.underlying25 rfl (by kernel_rfl)
  simp [results, h, hp', asAddr, e]
/-- An image whose lists are rows of one's own. -/
def OwnI (base : Nat) (w : World) (u : Value) (m : ImM) : Prop := ∃ ca cc da dc, u = .agg #[.slice ca m.code.length cc, .int .i64 m.entry, .slice da m.data.length dc, .int .i64 m.write, .int .i64 m.more] ∧ (OwnW base w (.slice ca m.code.length cc) m.code ∧ Wrd m.code) ∧ OwnB base w (.slice da m.data.length dc) m.data ∧ Byt m.data
theorem OwnI.img {base : Nat} {w : World} {u : Value} {m : ImM} (h : OwnI base w u m) : IsImg (Fresh base w) w u m := by
  obtain ⟨ca, cc, da, dc, rfl, ⟨h1, h2⟩, h3, h4⟩ := h
  exact ⟨_, _, rfl, own_words h1 h2, own_is h3 h4⟩
theorem OwnI.less {base base' : Nat} {w : World} {u : Value} {m : ImM} (h : OwnI base w u m) (hb : base' ≤ base) : OwnI base' w u m := by
  obtain ⟨ca, cc, da, dc, e, ⟨h1, h2⟩, h3, h4⟩ := h
  exact ⟨ca, cc, da, dc, e, ⟨own_less h1 hb, h2⟩, own_less h3 hb, h4⟩
theorem OwnI.apart {O : Nat → Prop} {base : Nat} {w w' : World} {u : Value} {m : ImM} (h : OwnI base w u m) (ha : Apart O w w') (hO : ∀ k, base ≤ k → ¬ O k) : OwnI base w' u m := by
  obtain ⟨ca, cc, da, dc, e, ⟨h1, h2⟩, h3, h4⟩ := h
  exact ⟨ca, cc, da, dc, e, ⟨own_apart h1 ha hO, h2⟩, own_apart h3 ha hO, h4⟩
theorem OwnI.later {base : Nat} {w w' : World} {u : Value} {m : ImM} (h : OwnI base w u m) (hb : Below w.heap.size w w') : OwnI base w' u m := by
  obtain ⟨ca, cc, da, dc, e, ⟨h1, h2⟩, h3, h4⟩ := h
  exact ⟨ca, cc, da, dc, e, ⟨own_below h1 hb, h2⟩, own_below h3 hb, h4⟩
/-- An image under way: the scanner, the result R, the variable M. -/
structure Tm (O : Nat → Prop) (w : World) (v : Value) (M : Nat) (cs : List Value) (b : Bs) (W : World) : Prop where
  sk : Sk O W v b
  xr : XAt W w.heap.size nil5
  xm : XAt W M cs
  mr : w.heap.size < M ∧ M < W.heap.size
  ap : Apart O w W
  lt : ∀ k, O k → k < w.heap.size
section
variable {O : Nat → Prop} {w : World} {v : Value} {M : Nat} {cs : List Value} {b b' : Bs} {W W' : World}
theorem Tm.call (h : Tm O w v M cs b W) (hs : Sk O W' v b') (ha : Apart O W W') : Tm O w v M cs b' W' :=
  ⟨hs, h.xr.apart (by have := h.mr; omega) ha (fun e => by have := h.lt _ e; omega), h.xm.apart h.mr.2 ha (fun e => by have := h.lt _ e; have := h.mr.1; omega), ⟨h.mr.1, Nat.lt_of_lt_of_le h.mr.2 ha.size⟩, h.ap.same ha, h.lt⟩
theorem Tm.set (h : Tm O w v M cs b W) (i : Nat) (hi : i < cs.length) (u : Value) : Tm O w v M (cs.set i u) b (W.setCell ⟨M, i, none⟩ u) :=
  ⟨h.sk.keep (set_apart9 W M i u).size (fun k k1 k2 => (set_apart9 W M i u).block k k1 (fun e => by have e : k = M := e; have := h.lt k k2; have := h.mr.1; omega)), h.xr.keep (Below.heap_setCell _ _ _ _ (by have := h.mr.1; simp; omega)), h.xm.set i hi u, by simpa using h.mr, h.ap.trans (set_apart9 W M i u) (fun k e => by have e : k = M := e; have := h.mr.1; exact .inr (by omega)), h.lt⟩
theorem Tm.far (h : Tm O w v M cs b W) : ∀ k, w.heap.size ≤ k → ¬ O k := fun k h1 h2 => by have := h.lt k h2; omega
theorem Tm.later (h : Tm O w v M cs b W) (hb : Below W.heap.size W W') : Tm O w v M cs b W' := h.call (h.sk.later hb) (Apart.of_below hb)
end
set_option maxRecDepth 100000 in
set_option maxHeartbeats 4000000 in
theorem tk_image {O : Nat → Prop} {w : World} {v : Value} {b : Bs} (h : Sk O w v b) : Calls Try.prog 21 #[v] w (Took O w v (imgR (.good b)) fun x w' u => OwnI w.heap.size w' u x) := by
  have HLT : Hid (∀ k, O k → k < w.heap.size) := h.lt
  have HK := Hid.mk9 h
  obtain ⟨g, rfl, hg⟩ := h.ptr
  clear h hg
  go_enter Try.func21, Try.ntmps21
  go_upto_region 1 with fail
  have X0 := Hid.mk9 (XAt.new w #[.slice none 0 0, .int .i64 0, .slice none 0 0, .int .i64 0, .int .i64 0] 25)
  have B0 : Hid (Below w.heap.size w (w.alloc (.cells #[.slice none 0 0, .int .i64 0, .slice none 0 0, .int .i64 0, .int .i64 0] 25))) := keep_alloc8 (Below.refl _ _) _
  have R0 : Hid (w.heap.size < (w.alloc (.cells #[.slice none 0 0, .int .i64 0, .slice none 0 0, .int .i64 0, .int .i64 0] 25)).heap.size) := by unfold Hid; simp
  generalize w.alloc (.cells #[.slice none 0 0, .int .i64 0, .slice none 0 0, .int .i64 0, .int .i64 0] 25) = w1 at X0 B0 R0 ⊢
  replace X0 : Hid (XAt w1 w.heap.size nil5) := X0
  have K1 := Hid.mk9 (HK.out.later B0.out)
  have A0 : Hid (Apart O w w1) := Apart.of_below B0.out
  have TB := Hid.mk9 (sk_bytes K1.out 4 (by omega))
  have CV : Hid (∀ (W : World) (a : Option Addr) (c : Nat) (x : Bs) (base : Nat), x.length = 4 → Byt x → W.ownsRow base 5 1 (.slice a 4 c) 4 (x.map fun z => .int .u8 z) → (convert 23 9 (.slice a 4 c)).run Try.prog W = .ok (.string (textL x)) W) := fun W a c x base hx hb ho => by
    have h : IsBytes (Fresh base W) W (.slice a 4 c) x := own_is (by unfold OwnB; rw [hx]; exact ho) hb
    have h2 := first_text h (Nat.le_refl _)
    rwa [List.take_of_length_le (by omega)] at h2
  have MU : Hid (∀ W b1 c, Sk O W (.pointer (some ⟨g, 0, none⟩)) b1 → Calls Try.prog 31 #[.pointer (some ⟨g, 0, none⟩), .bool c] W (Took O W (.pointer (some ⟨g, 0, none⟩)) (mustR c (.good b1)) fun _ _ u => u = .tuple #[])) := fun W b1 c hW => sk_must hW c
  go_upto_region 2 with (first
    | (go_at_call 32; refine TB.out.mono ?_; rintro e w2 ⟨⟨x1, b1, u, hr1, rfl, ⟨a1, c1, rfl, hx1, hy1, ho1⟩, hS1⟩ | ⟨x1, er, hr1, rfl⟩, hA1⟩; all_goals (try (have cv := CV.out w2 a1 c1 x1 _ hx1 hy1 ho1; have bd := begin_dec hy1; have HX1 := Hid.mk9 hx1; clear hx1 ho1)))
    | (go_at_call 31; refine (MU.out _ _ _ hS1).mono ?_; rintro e w3 ⟨⟨x2, b2, u, hr2, rfl, rfl, hS2⟩ | ⟨x2, er, hr2, rfl⟩, hA2⟩))
  rotate_left
  · refine ⟨rfl, .inr ?_, (A0.out.same hA1).same hA2⟩
    obtain ⟨y, hy⟩ : ∃ y, imgR (.good b) = (y, .bad er) := by
      unfold imgR
      rw [bind_fwd hr1.out]
      exact bind_bad (fun _ => keeps1) hr2.out
    exact ⟨y, er, hy, rfl⟩
  · refine ⟨rfl, .inr ?_, A0.out.same hA1⟩
    obtain ⟨y, hy⟩ : ∃ y, imgR (.good b) = (y, .bad er) := by
      unfold imgR
      exact bind_bad (fun _ => keeps_bind (keeps_must _) fun _ => keeps1) hr1.out
    exact ⟨y, er, hy, rfl⟩
  obtain ⟨hbg, rfl⟩ := must_back hr2.out
  have HR1 : Hid (imgR (.good b) = img1 (.good b1)) := by
    have h := hr1.out
    unfold imgR
    rw [bind_fwd h, bind_fwd (must_fwd hbg b1)]; exact Hid.mk0 rfl
  have R3 : Hid (w.heap.size < w3.heap.size) := Nat.lt_of_lt_of_le R0.out (Nat.le_trans hA1.size hA2.size)
  have X3 := Hid.mk9 (((X0.out.apart R0.out hA1 (fun e => by have := HLT.out _ e; omega)).apart (Nat.lt_of_lt_of_le R0.out hA1.size) hA2 (fun e => by have := HLT.out _ e; omega)))
  have A3 := Hid.mk9 ((A0.out.same hA1).same hA2)
  have S3 := Hid.mk9 hS2
  clear hr1 hr2 hbg cv bd hA1 hA2 hS1 hS2 X0 R0 A0 K1 B0 HK TB HX1 hy1 CV MU
  go_upto_region 3 with fail
  have T0 : Hid (Tm O w (.pointer (some ⟨g, 0, none⟩)) w3.heap.size nil5 b1 (w3.alloc (.cells #[.slice none 0 0, .int .i64 0, .slice none 0 0, .int .i64 0, .int .i64 0] 25))) :=
    ⟨S3.out.later (keep_alloc8 (Below.refl _ _) _), X3.out.later R3.out (keep_alloc8 (Below.refl _ _) _), XAt.new _ _ _, ⟨R3.out, by simp⟩, A3.out.then (keep_alloc8 (Below.refl _ _) _), HLT.out⟩
  clear S3 X3 R3 A3
  generalize w3.alloc (.cells #[.slice none 0 0, .int .i64 0, .slice none 0 0, .int .i64 0, .int .i64 0] 25) = w4 at T0 ⊢
  generalize w3.heap.size = M at T0 ⊢
  have TN := Hid.mk9 (tk_most T0.out.sk 65536)
  have TW : Hid (∀ W b' (N : Nat), Sk O W (.pointer (some ⟨g, 0, none⟩)) b' → N ≤ 65536 → Calls Try.prog 33 #[.pointer (some ⟨g, 0, none⟩), .int .i64 N] W (Took O W (.pointer (some ⟨g, 0, none⟩)) (timesR (numR 4) N (.good b')) fun x w' u => OwnW W.heap.size w' u x ∧ Wrd x ∧ x.length = N)) := fun W b' N hW hN => tk_words hW N hN
  go_upto_region 4 with (first
    | (go_at_call 34; refine TN.out.mono ?_; rintro e w5 ⟨⟨x3, b3, u, hr3, rfl, ⟨N, rfl, hN, hN2⟩, hS3⟩ | ⟨x3, er, hr3, rfl⟩, hA3⟩)
    | (go_at_call 33; refine (TW.out _ _ N hS3 (by omega)).mono ?_; rintro e w6 ⟨⟨L, b4, u, hr4, rfl, ⟨ho4, hw4, hl4⟩, hS4⟩ | ⟨x4, er, hr4, rfl⟩, hA4⟩; all_goals (try (obtain ⟨ca, cc, rfl⟩ := own_form ho4; have T2 := (T0.out.call hS3 hA3).call hS4 hA4; have OC := Hid.mk9 ho4; have WL := Hid.mk9 (And.intro hw4 hl4); clear ho4 hw4 hl4; obtain ⟨⟨m0, -, -, -, -⟩, f0, -, -, -, -⟩ := XAt.five T2.xm))))
  rotate_left
  · refine ⟨rfl, .inr ?_, (T0.out.ap.same hA3).same hA4⟩
    obtain ⟨y, hy⟩ : ∃ y, imgR (.good b) = (y, .bad er) := by
      rw [HR1.out]
      unfold img1
      rw [bind_fwd hr3.out, hN, Int.toNat_natCast]
      exact bind_bad (fun _ => keeps2 _) hr4.out
    exact ⟨y, er, hy, rfl⟩
  · refine ⟨rfl, .inr ?_, T0.out.ap.same hA3⟩
    obtain ⟨y, hy⟩ : ∃ y, imgR (.good b) = (y, .bad er) := by
      rw [HR1.out]
      exact bind_bad (fun _ => keeps_bind (keeps_times _ _) fun _ => keeps2 _) hr3.out
    exact ⟨y, er, hy, rfl⟩
  have HR2 : Hid (imgR (.good b) = img2 L (.good b4)) := by
    have h3 := hr3.out
    have h4 := hr4.out
    rw [HR1.out]
    unfold img1
    rw [bind_fwd h3, hN, Int.toNat_natCast, bind_fwd h4]; exact Hid.mk0 rfl
  have T3 : Hid (Tm O w (.pointer (some ⟨g, 0, none⟩)) M [.slice ca L.length cc, .int .i64 0, .slice none 0 0, .int .i64 0, .int .i64 0] b4 (w6.setCell ⟨M, 0, none⟩ (.slice ca L.length cc))) := T2.set 0 (by decide) _
  have OC3 : Hid (OwnW (M + 1) (w6.setCell ⟨M, 0, none⟩ (.slice ca L.length cc)) (.slice ca L.length cc) L) := own_apart (own_less OC.out (Nat.le_trans T0.out.mr.2 hA3.size)) (set_apart9 w6 M 0 _) (fun k h1 h2 => by have h2 : k = M := h2; omega)
  have hLL : (L.length : Int) ≤ 65536 := by have := WL.out.2; omega
  clear T2 OC m0 f0 hr3 hr4 hA3 hA4 hS3 hS4 hN hN2 T0 TN TW HR1
  generalize w6.setCell ⟨M, 0, none⟩ (.slice ca L.length cc) = w7 at T3 OC3 ⊢
  obtain ⟨⟨m0, -, -, -, -⟩, -⟩ := XAt.five T3.out.xm
  have TN := Hid.mk9 (tk_most T3.out.sk (lastZ L.length))
  have LA : Hid (∀ W, Calls Try.prog 25 #[.slice ca L.length cc] W fun e w' => e = .returned (.int .i64 (lastZ L.length)) ∧ w' = W) := fun W => last_any (by unfold maxLen; omega) W
  go_upto_region 5 with (first
    | (go_at_call 25; refine (LA.out _).mono ?_; rintro e w9 ⟨rfl, hw9⟩; obtain rfl := hw9.symm)
    | (go_at_call 34; refine TN.out.mono ?_; rintro e w8 ⟨⟨x5, b5, u, hr5, rfl, ⟨E, rfl, hE, hE2⟩, hS5⟩ | ⟨x5, er, hr5, rfl⟩, hA5⟩; all_goals (try (have T4 := T3.out.call hS5 hA5; obtain ⟨⟨-, m1, -, -, -⟩, -, f1, -, -, -⟩ := XAt.five T4.xm; have OC4 := Hid.mk9 (own_apart OC3.out hA5 (fun k h1 h2 => by have := HLT.out k h2; have := T3.out.mr.1; omega))))))
  rotate_left
  · refine ⟨rfl, .inr ?_, T3.out.ap.same hA5⟩
    obtain ⟨y, hy⟩ : ∃ y, imgR (.good b) = (y, .bad er) := by
      rw [HR2.out]
      exact bind_bad (fun _ => keeps3 _ _) hr5.out
    exact ⟨y, er, hy, rfl⟩
  have HR3 : Hid (imgR (.good b) = img3 L (E : Int) (.good b5)) := by
    have h5 := hr5.out
    rw [HR2.out]
    unfold img2
    rw [bind_fwd h5, hE]; exact Hid.mk0 rfl
  have T5 : Hid (Tm O w (.pointer (some ⟨g, 0, none⟩)) M [.slice ca L.length cc, .int .i64 (E : Int), .slice none 0 0, .int .i64 0, .int .i64 0] b5 (w8.setCell ⟨M, 1, none⟩ (.int .i64 (E : Int)))) := T4.set 1 (by simp) _
  have OC5 : Hid (OwnW (M + 1) (w8.setCell ⟨M, 1, none⟩ (.int .i64 (E : Int))) (.slice ca L.length cc) L) := own_apart OC4.out (set_apart9 w8 M 1 _) (fun k h1 h2 => by have h2 : k = M := h2; omega)
  clear T4 OC3 OC4 m0 m1 f1 hr5 hA5 hS5 hE hE2 T3 TN LA HR2
  generalize w8.setCell ⟨M, 1, none⟩ (.int .i64 (E : Int)) = wa at T5 OC5 ⊢
  have TN := Hid.mk9 (tk_most T5.out.sk 65536)
  have TB : Hid (∀ W b' (k : Nat), Sk O W (.pointer (some ⟨g, 0, none⟩)) b' → k ≤ 70000 → Calls Try.prog 32 #[.pointer (some ⟨g, 0, none⟩), .int .i64 k] W (Took O W (.pointer (some ⟨g, 0, none⟩)) (takeR k (.good b')) fun x w' u => ∃ a c, u = .slice a k c ∧ x.length = k ∧ Byt x ∧ w'.ownsRow W.heap.size 5 1 (.slice a k c) k (x.map fun z => .int .u8 z))) := fun W b' k hW hk => sk_bytes hW k hk
  go_upto_region 6 with (first
    | (go_at_call 34; refine TN.out.mono ?_; rintro e wc ⟨⟨x6, b6, u, hr6, rfl, ⟨S, rfl, hS, hS2⟩, hS6⟩ | ⟨x6, er, hr6, rfl⟩, hA6⟩)
    | (go_at_call 32; refine (TB.out _ _ S hS6 (by omega)).mono ?_; rintro e wd ⟨⟨D, b7, u, hr7, rfl, ⟨da, dc, rfl, hl7, hy7, ho7⟩, hS7⟩ | ⟨x7, er, hr7, rfl⟩, hA7⟩; all_goals (try (have T6 := (T5.out.call hS6 hA6).call hS7 hA7; have OD := Hid.mk9 ho7; have DL := Hid.mk9 (And.intro hl7 hy7); clear ho7 hl7 hy7; obtain ⟨⟨-, -, m2, -, -⟩, -, -, f2, -, -⟩ := XAt.five T6.xm; have OC6 := Hid.mk9 (own_apart (own_apart OC5.out hA6 (fun k h1 h2 => by have := HLT.out k h2; have := T5.out.mr.1; omega)) hA7 (fun k h1 h2 => by have := HLT.out k h2; have := T5.out.mr.1; omega))))))
  rotate_left
  · refine ⟨rfl, .inr ?_, (T5.out.ap.same hA6).same hA7⟩
    obtain ⟨y, hy⟩ : ∃ y, imgR (.good b) = (y, .bad er) := by
      rw [HR3.out]
      unfold img3
      rw [bind_fwd hr6.out, hS]
      unfold img4
      rw [Int.toNat_natCast]
      exact bind_bad (fun _ => keeps5 _ _ _) hr7.out
    exact ⟨y, er, hy, rfl⟩
  · refine ⟨rfl, .inr ?_, T5.out.ap.same hA6⟩
    obtain ⟨y, hy⟩ : ∃ y, imgR (.good b) = (y, .bad er) := by
      rw [HR3.out]
      exact bind_bad (fun _ => keeps4 _ _ _) hr6.out
    exact ⟨y, er, hy, rfl⟩
  have HR5 : Hid (imgR (.good b) = img5 L (E : Int) D (.good b7)) := by
    have h6 := hr6.out
    have h7 := hr7.out
    rw [HR3.out]
    unfold img3
    rw [bind_fwd h6, hS]
    unfold img4
    rw [Int.toNat_natCast, bind_fwd h7]; exact Hid.mk0 rfl
  have T7 : Hid (Tm O w (.pointer (some ⟨g, 0, none⟩)) M [.slice ca L.length cc, .int .i64 (E : Int), .slice da S dc, .int .i64 0, .int .i64 0] b7 (wd.setCell ⟨M, 2, none⟩ (.slice da S dc))) := T6.set 2 (by simp) _
  have OC7 : Hid (OwnW (M + 1) (wd.setCell ⟨M, 2, none⟩ (.slice da S dc)) (.slice ca L.length cc) L) := own_apart OC6.out (set_apart9 wd M 2 _) (fun k h1 h2 => by have h2 : k = M := h2; omega)
  have OD7 : Hid (OwnB (M + 1) (wd.setCell ⟨M, 2, none⟩ (.slice da S dc)) (.slice da S dc) D) := by
    unfold OwnB
    rw [DL.out.1]
    exact own_apart (own_less OD.out (Nat.le_trans T5.out.mr.2 hA6.size)) (set_apart9 wd M 2 _) (fun k h1 h2 => by have h2 : k = M := h2; omega)
  clear T6 OC5 OC6 OD m2 f2 hr6 hr7 hA6 hA7 hS6 hS7 hS T5 TN TB HR3
  generalize wd.setCell ⟨M, 2, none⟩ (.slice da S dc) = we at T7 OC7 OD7 ⊢
  obtain ⟨⟨-, -, m2, -, -⟩, -⟩ := XAt.five T7.out.xm
  have TN := Hid.mk9 (tk_most T7.out.sk (S : Int))
  go_upto_region 7 with (go_at_call 34; refine TN.out.mono ?_; rintro e wf ⟨⟨x8, b8, u, hr8, rfl, ⟨T, rfl, hT, hT2⟩, hS8⟩ | ⟨x8, er, hr8, rfl⟩, hA8⟩; all_goals (try (have T8 := T7.out.call hS8 hA8; obtain ⟨⟨-, -, -, m3, -⟩, -, -, -, f3, -⟩ := XAt.five T8.xm; have OC8 := Hid.mk9 (own_apart OC7.out hA8 (fun k h1 h2 => by have := HLT.out k h2; have := T7.out.mr.1; omega)); have OD8 := Hid.mk9 (own_apart OD7.out hA8 (fun k h1 h2 => by have := HLT.out k h2; have := T7.out.mr.1; omega)))))
  rotate_left
  · refine ⟨rfl, .inr ?_, T7.out.ap.same hA8⟩
    obtain ⟨y, hy⟩ : ∃ y, imgR (.good b) = (y, .bad er) := by
      rw [HR5.out]
      unfold img5
      rw [DL.out.1]
      exact bind_bad (fun _ => keeps6 _ _ _ _) hr8.out
    exact ⟨y, er, hy, rfl⟩
  have HR6 : Hid (imgR (.good b) = img6 L (E : Int) D (T : Int) (.good b8)) := by
    have h8 := hr8.out
    rw [HR5.out]
    unfold img5
    rw [DL.out.1, bind_fwd h8, hT]; exact Hid.mk0 rfl
  have T9 : Hid (Tm O w (.pointer (some ⟨g, 0, none⟩)) M [.slice ca L.length cc, .int .i64 (E : Int), .slice da S dc, .int .i64 (T : Int), .int .i64 0] b8 (wf.setCell ⟨M, 3, none⟩ (.int .i64 (T : Int)))) := T8.set 3 (by simp) _
  have OC9 : Hid (OwnW (M + 1) (wf.setCell ⟨M, 3, none⟩ (.int .i64 (T : Int))) (.slice ca L.length cc) L) := own_apart OC8.out (set_apart9 wf M 3 _) (fun k h1 h2 => by have h2 : k = M := h2; omega)
  have OD9 : Hid (OwnB (M + 1) (wf.setCell ⟨M, 3, none⟩ (.int .i64 (T : Int))) (.slice da S dc) D) := own_apart OD8.out (set_apart9 wf M 3 _) (fun k h1 h2 => by have h2 : k = M := h2; omega)
  clear T8 OC7 OC8 OD7 OD8 m2 m3 f3 hr8 hA8 hS8 hT hT2 T7 TN HR5
  generalize wf.setCell ⟨M, 3, none⟩ (.int .i64 (T : Int)) = wg at T9 OC9 OD9 ⊢
  have TN := Hid.mk9 (tk_most T9.out.sk 65536)
  go_upto_region 8 with (go_at_call 34; refine TN.out.mono ?_; rintro e wh ⟨⟨x9, b9, u, hr9, rfl, ⟨U, rfl, hU, hU2⟩, hS9⟩ | ⟨x9, er, hr9, rfl⟩, hA9⟩; all_goals (try (have Ta := T9.out.call hS9 hA9; obtain ⟨⟨-, -, -, -, m4⟩, -, -, -, -, f4⟩ := XAt.five Ta.xm; have OCa := Hid.mk9 (own_apart OC9.out hA9 (fun k h1 h2 => by have := HLT.out k h2; have := T9.out.mr.1; omega)); have ODa := Hid.mk9 (own_apart OD9.out hA9 (fun k h1 h2 => by have := HLT.out k h2; have := T9.out.mr.1; omega)))))
  rotate_left
  · refine ⟨rfl, .inr ?_, T9.out.ap.same hA9⟩
    obtain ⟨y, hy⟩ : ∃ y, imgR (.good b) = (y, .bad er) := by
      rw [HR6.out]
      exact bind_bad (fun _ => keeps_pure _) hr9.out
    exact ⟨y, er, hy, rfl⟩
  have HR7 : Hid (imgR (.good b) = (ImM.mk L (E : Int) D (T : Int) (U : Int), .good b9)) := by
    have h9 := hr9.out
    rw [HR6.out]
    unfold img6
    rw [bind_fwd h9, hU]; exact Hid.mk0 rfl
  have Tb : Hid (Tm O w (.pointer (some ⟨g, 0, none⟩)) M [.slice ca L.length cc, .int .i64 (E : Int), .slice da S dc, .int .i64 (T : Int), .int .i64 (U : Int)] b9 (wh.setCell ⟨M, 4, none⟩ (.int .i64 (U : Int)))) := Ta.set 4 (by simp) _
  have OCb : Hid (OwnW (M + 1) (wh.setCell ⟨M, 4, none⟩ (.int .i64 (U : Int))) (.slice ca L.length cc) L) := own_apart OCa.out (set_apart9 wh M 4 _) (fun k h1 h2 => by have h2 : k = M := h2; omega)
  have ODb : Hid (OwnB (M + 1) (wh.setCell ⟨M, 4, none⟩ (.int .i64 (U : Int))) (.slice da S dc) D) := own_apart ODa.out (set_apart9 wh M 4 _) (fun k h1 h2 => by have h2 : k = M := h2; omega)
  clear Ta OC9 OCa OD9 ODa m4 f4 hr9 hA9 hS9 hU hU2 T9 TN HR6
  generalize wh.setCell ⟨M, 4, none⟩ (.int .i64 (U : Int)) = wi at Tb OCb ODb ⊢
  obtain ⟨⟨m0, m1, m2, m3, m4⟩, -⟩ := XAt.five Tb.out.xm
  obtain ⟨⟨y0, y1, y2, y3, y4⟩, z0, z1, z2, z3, z4⟩ := XAt.five Tb.out.xr
  have KK := Hid.mk9 (sets5 Tb.out.xr (.slice ca L.length cc) (.int .i64 (E : Int)) (.slice da S dc) (.int .i64 (T : Int)) (.int .i64 (U : Int)))
  go_wp2
  refine bodyPost_ret (results_img1 Try.results21 _ w.heap.size (by first | rfl | simp) _ _ _ _ _ _ KK.out.1) rfl ⟨.inl ⟨_, b9, _, HR7, rfl, ?_, ?_⟩, ?_⟩
  · have hM := Tb.out.mr.1
    refine ⟨ca, cc, da, dc, by dsimp only; rw [DL.out.1], ⟨own_less (own_apart OCb.out KK.out.2 (fun k h1 h2 => by have h2 : k = w.heap.size := h2; omega)) (by omega), WL.out.1⟩, ?_, DL.out.2⟩
    dsimp only
    have h : OwnB w.heap.size _ (.slice da S dc) D := own_less (own_apart ODb.out KK.out.2 (fun k h1 h2 => by have h2 : k = w.heap.size := h2; omega)) (by omega)
    rw [DL.out.1]; exact h
  · exact Tb.out.sk.keep KK.out.2.size fun k k1 k2 => KK.out.2.block k k1 fun e => by have e : k = w.heap.size := e; have := HLT.out k k2; omega
  · exact Tb.out.ap.trans KK.out.2 (fun k e => by have e : k = w.heap.size := e; exact .inr (by omega))
end Go.Proofs.Ytlpmkbdoofbmiaa
