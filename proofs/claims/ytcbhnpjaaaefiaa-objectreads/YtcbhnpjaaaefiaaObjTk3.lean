/- What the code takes of bytes: lists of words and of relocations. -/
import Derived.Test.YtcbhnpjaaaefiaaObjTk2
import Derived.Test.YtcbhnpjaaaefiaaObjRead
namespace Go.Proofs.Ytcbhnpjaaaefiaa
open Go.ChangeShapes Go.WideShapes Go.ChangeAt Go.RowKit
set_option linter.unusedVariables false
set_option linter.unusedSimpArgs false
def RE (A : Nat → Prop) (W : World) (x : RelM) : Prop := x.name.size ≤ maxLen
theorem RE.ek : Ek RE := ⟨fun A W W' x h hk => h, fun A A' W x h hA => h⟩
theorem Gr.rels {b n : Nat} {v : Value} {L : List RelM} {W : World} {t : TypeId} (h : Gr RE relC t 4 b n v L W) : IsRels (fun k => b ≤ k ∧ k < W.heap.size) W v L := by
  have key := h.lst (fun _ => rfl) id (el := RelAt W) fun b' o x hx hc => ⟨hc 0 _ rfl, hc 1 _ rfl, hc 2 _ rfl, hc 3 _ rfl, hx⟩
  rwa [List.map_id] at key
/-- Data, whose bytes may be written to. -/
def DEx (A : Nat → Prop) (W : World) (x : DX) : Prop := DE A W x ∧ LooseB W x.2.1
theorem DEx.ek : Ek DEx := ⟨fun A W W' x h hk => ⟨DE.ek.keep _ _ _ _ h.1 hk, h.2.keep h.1.1 hk⟩, fun A A' W x h hA => ⟨DE.ek.wide _ _ _ _ h.1 hA, h.2⟩⟩
theorem Gr.plain {b n : Nat} {v : Value} {L : List DX} {W : World} {t : TypeId} (h : Gr DEx dxC t 7 b n v L W) : Gr DE dxC t 7 b n v L W := ⟨h.own, fun x hx => (h.el x hx).1, h.top, h.le⟩
theorem gr_after {α : Type} {E : (Nat → Prop) → World → α → Prop} (hE : Ek E) {cells : α → List Value} {t : TypeId} {sz b n : Nat} {v : Value} {L : List α} {W W' : World} {O : Nat → Prop} (h : Gr E cells t sz b n v L W) (ha : Apart O W W') (hlt : ∀ k, O k → k < b) : Gr E cells t sz b n v L W' :=
  h.keep hE ha.size fun k k1 k2 => ha.block k (Nat.lt_of_lt_of_le k2 h.le.2) fun ho => by have := hlt k ho; omega
theorem apart_grown {O : Nat → Prop} {w w2 w3 : World} {ob : Option Nat} (h : Apart O w w2) (g : w2.grownBy w3 ob) (ho : ∀ q, ob = some q → w.heap.size ≤ q) : Apart O w w3 :=
  ⟨g.os.trans h.os, g.tape.trans h.tape, g.output.trans h.output, Nat.le_trans h.size g.size, fun k hk hn => (g.block k (Nat.lt_of_lt_of_le hk h.size) fun e => by have := ho k e.symm; omega).trans (h.block k hk hn)⟩
theorem times_fail {α : Type} {f : Rdr α} {N k : Nat} {s1 : St} {l : List α} {b : Bs} {x : α} {er : Int} (h : timesR f N s1 = (l ++ (timesR f (N - k) (.good b)).1, (timesR f (N - k) (.good b)).2)) (hx : f (.good b) = (x, .bad er)) (hk : k < N) : ∃ y, timesR f N s1 = (y, .bad er) := by
  have h2 := times_more h hx hk
  rw [times_bad] at h2
  exact ⟨_, h2⟩
section
variable {O : Nat → Prop} {w : World} {v : Value} {b : Bs}
set_option maxRecDepth 100000 in
set_option maxHeartbeats 2000000 in
theorem tk_words (h : Sk O w v b) (m : Nat) (hm : m ≤ 65535) : Calls Try.prog 92 #[v, .int .i64 m, .func (.func 93) #[] #[]] w (Took O w v (listR m (numR 4) (.good b)) fun x w' u => IsWords (Fresh w.heap.size w') w' u x) := by
  have CT : Hid (Calls Try.prog 89 #[v, .int .i64 m] w (Took O w v (countR m (.good b)) fun x _ u => ∃ N : Nat, u = .int .i64 N ∧ x = N ∧ N ≤ m)) := sk_count h m hm
  have TF : Hid (∀ W b1, Sk O W v b1 → Calls Try.prog 93 #[v] W (Took O W v ((numR 4) (.good b1)) (fun x _ u => u = .int .u32 x ∧ 0 ≤ x ∧ x < 4294967296))) := fun W b1 hW => tk_word hW
  have HLT : Hid (∀ k, O k → k < w.heap.size) := h.lt
  have HM : Hid (m ≤ 65535) := hm
  obtain ⟨g, rfl, hg⟩ := h.ptr
  clear h
  obtain ⟨i2, hi0, hz0, hz1, hz2⟩ := info_parts infoU32
  go_enter Try.func92, Try.ntmps92
  go_wp2_with (go_at_call 89; refine CT.out.mono ?_; rintro e w1 ⟨⟨x1, b1, u, hr1, rfl, ⟨N, rfl, hN, hN2⟩, hS1⟩ | ⟨x1, er, hr1, rfl⟩, hA1⟩)
  rotate_left
  · refine ⟨rfl, .inr ?_, hA1⟩
    obtain ⟨y, hy⟩ : ∃ y, listR m (numR 4) (.good b) = (y, .bad er) := bind_bad (fun _ => keeps_times _ _) hr1.out
    exact ⟨y, er, hy, rfl⟩
  have HR1 : Hid (listR m (numR 4) (.good b) = timesR (numR 4) N (.good b1)) := by
    have h := hr1.out
    unfold listR
    rw [bind_fwd h, hN, Int.toNat_natCast]; exact Hid.mk0 rfl
  have HNN : Hid (N ≤ m) := hN2
  clear CT hr1 hN hN2
  go_loopw [7, 11] (fun lv iv wr => ∃ (k : Nat) (L : List Int) (n : Nat) (b' : Bs), k ≤ N ∧ iv = .int .i64 k ∧ L.length = k ∧ Sk O wr (.pointer (some ⟨g, 0, none⟩)) b' ∧ Gr UE uC 61 1 w.heap.size n lv L wr ∧ timesR (numR 4) N (.good b1) = (L ++ (timesR (numR 4) (N - k) (.good b')).1, (timesR (numR 4) (N - k) (.good b')).2) ∧ Apart O w wr) (fun _ iv _ => N - (intOf iv).toNat)
  case atStart => exact ⟨0, [], w.heap.size, b1, Nat.zero_le _, rfl, rfl, hS1, Gr.nil hA1.size, rfl, hA1⟩
  case round =>
    obtain ⟨k, L, n, b', hk, rfl, hL, hS, hG, htm, hA⟩ := hrel
    have HS : Hid (Sk O wr (.pointer (some ⟨g, 0, none⟩)) b') := hS
    have HTM : Hid (timesR (numR 4) N (.good b1) = (L ++ (timesR (numR 4) (N - k) (.good b')).1, (timesR (numR 4) (N - k) (.good b')).2)) := htm
    have HA : Hid (Apart O w wr) := hA
    have HL : Hid (L.length = k) := hL
    obtain ⟨a0, c0, rfl⟩ := own_form hG.own
    have HG : Hid (Gr UE uC 61 1 w.heap.size n (.slice a0 L.length c0) L wr) := hG
    clear hS1 hA1 hS hG htm hA hL
    by_cases hlt : k < N
    · have hlt' : (k : Int) < N := by omega
      have hN9 : (N : Int) ≤ 65535 := by have := HNN.out; have := HM.out; omega
      go_wp2_with (first
        | (go_at_call 93; refine (TF.out _ _ HS.out).mono ?_; rintro e w2 ⟨⟨x, b2, u, hr2, rfl, ⟨rfl, hx0, hx9⟩, hS2⟩ | ⟨x, er, hr2, rfl⟩, hA2⟩; all_goals (try have hx := Hid.mk0 (And.intro hx0 hx9)); all_goals (try clear hx0 hx9))
        | (at_builtin; refine wpList_append_one _ rfl (.tmp 13) (.tmp 17) 47 rfl w.heap.size 61 i2 _ 1 4 Try.underlying47 hi0 hz0 hz1 hz2 rfl (by decide) (.slice a0 L.length c0) L.length (L.flatMap uC) rfl ((gr_after UE.ek HG.out hA2 HLT.out).later UE.ek (keep_alloc8 (Below.refl _ _) _)).own ⟨w2.heap.size, 0, none⟩ 1 (uC x) rfl rfl (fun j u hu => news_new w2 #[.int .u32 x] 61 (uC x) rfl _ rfl j u hu) (by intro u hu; simp [uC] at hu; subst hu; rfl) (by have := HL.out; unfold maxLen; omega) (by have := HL.out; omega) (Nat.le_trans HA.out.size (Nat.le_trans hA2.size (keep_alloc8 (Below.refl _ _) _).size)) ?_; intro a9 c9 w3 own9 grow9 wh9))
      · go_roundw
        case rel =>
          have up := keep_alloc8 (Below.refl _ w2) (.cells #[.int .u32 x] 61)
          have G2 := (gr_after UE.ek HG.out hA2 HLT.out).later UE.ek up
          have far : ∀ q, (Value.slice a0 L.length c0).ownBlock = some q → w.heap.size ≤ q := fun q hq => (own_oct HG.out.own q hq).1
          exact ⟨k + 1, L ++ [x], w3.heap.size, b2, by omega, by go_num, by rw [List.length_append, HL.out]; rfl, (hS2.later up).keep grow9.size (fun j h1 h2 => grow9.block j h1 fun e => by have := far j e.symm; have := HLT.out j h2; omega),
            G2.more UE.ek (x := x) (A := Fresh wr.heap.size w2) (show UE (Fresh wr.heap.size w2) _ x from hx.out) (fun j hj => ⟨Nat.le_trans HG.out.le.2 hj.1, Nat.lt_of_lt_of_le hj.2 up.size⟩) own9 grow9 wh9, times_more HTM.out hr2.out hlt,
            apart_grown ((HA.out.same hA2).then up) grow9 far⟩
        case measure => simp [intOf]; omega
      · refine ⟨rfl, .inr ?_, HA.out.same hA2⟩
        obtain ⟨y, hy⟩ := times_fail HTM.out hr2.out hlt
        exact ⟨y, er, by rw [HR1.out]; exact Hid.mk0 hy, rfl⟩
    · obtain rfl : k = N := by omega
      go_wp2
      go_ret
      have e1 := HTM.out
      rw [Nat.sub_self] at e1
      exact ⟨.inl ⟨L, b', _, by rw [HR1.out, e1]; exact Hid.mk0 (times_nil _ _ _), rfl, HG.out.words, HS.out⟩, HA.out⟩
set_option maxRecDepth 100000 in
set_option maxHeartbeats 2000000 in
theorem tk_rels (h : Sk O w v b) (m : Nat) (hm : m ≤ 65535) : Calls Try.prog 94 #[v, .int .i64 m, .func (.func 95) #[] #[]] w (Took O w v (listR m relR (.good b)) fun x w' u => IsRels (Fresh w.heap.size w') w' u x) := by
  have CT : Hid (Calls Try.prog 89 #[v, .int .i64 m] w (Took O w v (countR m (.good b)) fun x _ u => ∃ N : Nat, u = .int .i64 N ∧ x = N ∧ N ≤ m)) := sk_count h m hm
  have TF : Hid (∀ W b1, Sk O W v b1 → Calls Try.prog 95 #[v] W (Took O W v (relR (.good b1)) (fun x _ u => u = .agg #[.int .i64 x.at_, .int .i64 x.kind, .string x.name, .int .i64 x.add] ∧ x.name.size ≤ maxLen))) := fun W b1 hW => tk_rel hW
  have HLT : Hid (∀ k, O k → k < w.heap.size) := h.lt
  have HM : Hid (m ≤ 65535) := hm
  obtain ⟨g, rfl, hg⟩ := h.ptr
  clear h
  obtain ⟨i2, hi0, hz0, hz1, hz2⟩ := info_parts infoRel
  go_enter Try.func94, Try.ntmps94
  go_wp2_with (go_at_call 89; refine CT.out.mono ?_; rintro e w1 ⟨⟨x1, b1, u, hr1, rfl, ⟨N, rfl, hN, hN2⟩, hS1⟩ | ⟨x1, er, hr1, rfl⟩, hA1⟩)
  rotate_left
  · refine ⟨rfl, .inr ?_, hA1⟩
    obtain ⟨y, hy⟩ : ∃ y, listR m relR (.good b) = (y, .bad er) := bind_bad (fun _ => keeps_times _ _) hr1.out
    exact ⟨y, er, hy, rfl⟩
  have HR1 : Hid (listR m relR (.good b) = timesR relR N (.good b1)) := by
    have h := hr1.out
    unfold listR
    rw [bind_fwd h, hN, Int.toNat_natCast]; exact Hid.mk0 rfl
  have HNN : Hid (N ≤ m) := hN2
  clear CT hr1 hN hN2
  go_loopw [7, 11] (fun lv iv wr => ∃ (k : Nat) (L : List RelM) (n : Nat) (b' : Bs), k ≤ N ∧ iv = .int .i64 k ∧ L.length = k ∧ Sk O wr (.pointer (some ⟨g, 0, none⟩)) b' ∧ Gr RE relC 94 4 w.heap.size n lv L wr ∧ timesR relR N (.good b1) = (L ++ (timesR relR (N - k) (.good b')).1, (timesR relR (N - k) (.good b')).2) ∧ Apart O w wr) (fun _ iv _ => N - (intOf iv).toNat)
  case atStart => exact ⟨0, [], w.heap.size, b1, Nat.zero_le _, rfl, rfl, hS1, Gr.nil hA1.size, rfl, hA1⟩
  case round =>
    obtain ⟨k, L, n, b', hk, rfl, hL, hS, hG, htm, hA⟩ := hrel
    have HS : Hid (Sk O wr (.pointer (some ⟨g, 0, none⟩)) b') := hS
    have HTM : Hid (timesR relR N (.good b1) = (L ++ (timesR relR (N - k) (.good b')).1, (timesR relR (N - k) (.good b')).2)) := htm
    have HA : Hid (Apart O w wr) := hA
    have HL : Hid (L.length = k) := hL
    obtain ⟨a0, c0, rfl⟩ := own_form hG.own
    have HG : Hid (Gr RE relC 94 4 w.heap.size n (.slice a0 L.length c0) L wr) := hG
    clear hS1 hA1 hS hG htm hA hL
    by_cases hlt : k < N
    · have hlt' : (k : Int) < N := by omega
      have hN9 : (N : Int) ≤ 65535 := by have := HNN.out; have := HM.out; omega
      go_wp2_with (first
        | (go_at_call 95; refine (TF.out _ _ HS.out).mono ?_; rintro e w2 ⟨⟨⟨xa, xk, xn, xd⟩, b2, u, hr2, rfl, ⟨rfl, hn9⟩, hS2⟩ | ⟨x, er, hr2, rfl⟩, hA2⟩; all_goals (try have hn := Hid.mk0 hn9); all_goals (try clear hn9))
        | (at_builtin; refine wpList_append_one _ rfl (.tmp 13) (.tmp 17) 42 rfl w.heap.size 94 i2 _ 4 40 Try.underlying42 hi0 hz0 hz1 hz2 rfl (by decide) (.slice a0 L.length c0) L.length (L.flatMap relC) rfl ((gr_after RE.ek HG.out hA2 HLT.out).later RE.ek (keep_alloc8 (Below.refl _ _) _)).own ⟨w2.heap.size, 0, none⟩ 1 (relC (RelM.mk xa xk xn xd)) rfl rfl (fun j u hu => news_new w2 #[.int .i64 xa, .int .i64 xk, .string xn, .int .i64 xd] 94 (relC (RelM.mk xa xk xn xd)) rfl _ rfl j u hu) (by intro u hu; simp [relC] at hu; rcases hu with rfl | rfl | rfl | rfl <;> rfl) (by have := HL.out; unfold maxLen; omega) (by have := HL.out; omega) (Nat.le_trans HA.out.size (Nat.le_trans hA2.size (keep_alloc8 (Below.refl _ _) _).size)) ?_; intro a9 c9 w3 own9 grow9 wh9))
      · go_roundw
        case rel =>
          have up := keep_alloc8 (Below.refl _ w2) (.cells #[.int .i64 xa, .int .i64 xk, .string xn, .int .i64 xd] 94)
          have G2 := (gr_after RE.ek HG.out hA2 HLT.out).later RE.ek up
          have far : ∀ q, (Value.slice a0 L.length c0).ownBlock = some q → w.heap.size ≤ q := fun q hq => (own_oct HG.out.own q hq).1
          exact ⟨k + 1, L ++ [(RelM.mk xa xk xn xd)], w3.heap.size, b2, by omega, by go_num, by rw [List.length_append, HL.out]; rfl, (hS2.later up).keep grow9.size (fun j h1 h2 => grow9.block j h1 fun e => by have := far j e.symm; have := HLT.out j h2; omega),
            G2.more RE.ek (x := (RelM.mk xa xk xn xd)) (A := Fresh wr.heap.size w2) (show RE (Fresh wr.heap.size w2) _ (RelM.mk xa xk xn xd) from hn.out) (fun j hj => ⟨Nat.le_trans HG.out.le.2 hj.1, Nat.lt_of_lt_of_le hj.2 up.size⟩) own9 grow9 wh9, times_more HTM.out hr2.out hlt,
            apart_grown ((HA.out.same hA2).then up) grow9 far⟩
        case measure => simp [intOf]; omega
      · refine ⟨rfl, .inr ?_, HA.out.same hA2⟩
        obtain ⟨y, hy⟩ := times_fail HTM.out hr2.out hlt
        exact ⟨y, er, by rw [HR1.out]; exact Hid.mk0 hy, rfl⟩
    · obtain rfl : k = N := by omega
      go_wp2
      go_ret
      have e1 := HTM.out
      rw [Nat.sub_self] at e1
      exact ⟨.inl ⟨L, b', _, by rw [HR1.out, e1]; exact Hid.mk0 (times_nil _ _ _), rfl, HG.out.rels, HS.out⟩, HA.out⟩
end
end Go.Proofs.Ytcbhnpjaaaefiaa
