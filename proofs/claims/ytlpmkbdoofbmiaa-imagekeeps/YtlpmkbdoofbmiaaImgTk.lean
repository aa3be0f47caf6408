/- What the code takes of bytes: numbers, words, an image. -/
import Derived.Test.YtlpmkbdoofbmiaaImgRd
import Derived.Test.YtlpmkbdoofbmiaaImgOwn
namespace Go.Proofs.Ytlpmkbdoofbmiaa
open Go.ChangeShapes Go.WideShapes Go.ChangeAt Go.RowKit
set_option linter.unusedVariables false
set_option linter.unusedSimpArgs false
theorem apart_grown {O : Nat → Prop} {w w2 w3 : World} {ob : Option Nat} (h : Apart O w w2) (g : w2.grownBy w3 ob) (ho : ∀ q, ob = some q → w.heap.size ≤ q) : Apart O w w3 :=
  ⟨g.os.trans h.os, g.tape.trans h.tape, g.output.trans h.output, Nat.le_trans h.size g.size, fun k hk hn => (g.block k (Nat.lt_of_lt_of_le hk h.size) fun e => by have := ho k e.symm; omega).trans (h.block k hk hn)⟩
section
variable {O : Nat → Prop} {w : World} {v : Value} {b : Bs}
set_option maxRecDepth 100000 in
theorem tk_most (h : Sk O w v b) (m : Int) :
    Calls Try.prog 34 #[v, .int .i64 m] w (Took O w v (mostR m (.good b)) fun x _ u => ∃ N : Nat, u = .int .i64 N ∧ x = N ∧ (N : Int) ≤ m) := by
  have NM : Hid (Calls Try.prog 39 #[v, .int .i64 (4 : Nat)] w (Took O w v (numR 4 (.good b)) fun x _ u => ∃ L : Nat, u = .int .i64 L ∧ x = L)) := by
    refine (sk_num h 4 (by omega)).mono ?_
    rintro e w' ⟨⟨x, b1, u, hr, rfl, rfl, hS⟩ | ⟨x, er, hr, rfl⟩, hA⟩
    · have bd := numR_bd (n := 4) (s := .good b) (fun b'' e => by cases e; exact h.2)
      rw [p256_4, hr.out] at bd
      obtain ⟨L, rfl⟩ := Int.eq_ofNat_of_zero_le bd.1
      exact ⟨.inl ⟨_, b1, _, hr, rfl, ⟨L, rfl, rfl⟩, hS⟩, hA⟩
    · exact ⟨.inr ⟨x, er, hr, rfl⟩, hA⟩
  have WI : Hid (∀ (L : Nat) W, Calls Try.prog 24 #[.int .i64 (L : Int), .int .i64 m] W fun e w' => e = .returned (.bool (withB (L : Int) m)) ∧ w' = W) := fun L W => within_any _ _ W
  have MU : Hid (∀ W b1 c, Sk O W v b1 → Calls Try.prog 31 #[v, .bool c] W (Took O W v (mustR c (.good b1)) fun _ _ u => u = .tuple #[])) := fun W b1 c hW => sk_must hW c
  obtain ⟨g, rfl, hg⟩ := h.ptr
  clear h
  go_enter Try.func34, Try.ntmps34
  go_wp2_with (first
    | (go_at_call 39; refine NM.out.mono ?_; rintro e w1 ⟨⟨x1, b1, u, hr1, rfl, ⟨L, rfl, hL⟩, hS1⟩ | ⟨x1, er, hr1, rfl⟩, hA1⟩)
    | (go_at_call 24; refine (WI.out L _).mono ?_; rintro e w9 ⟨rfl, hw9⟩; obtain rfl := hw9.symm)
    | (go_at_call 31; refine (MU.out _ _ _ hS1).mono ?_; rintro e w4 ⟨⟨x4, b4, u, hr4, rfl, rfl, hS4⟩ | ⟨x4, er, hr4, rfl⟩, hA4⟩))
  · go_ret
    have hc := (must_back hr4.out).1
    have hb4 := (must_back hr4.out).2
    subst hb4
    have hLm : (L : Int) ≤ m := by unfold withB at hc; rw [decide_eq_true_eq] at hc; exact hc.2
    refine ⟨.inl ⟨(L : Int), b1, _, ?_, rfl, ⟨L, rfl, rfl, hLm⟩, hS4⟩, hA1.same hA4⟩
    unfold mostR
    rw [bind_fwd hr1.out, hL, bind_fwd (must_fwd hc b1)]; exact Hid.mk0 rfl
  · refine ⟨rfl, .inr ?_, hA1.same hA4⟩
    obtain ⟨y, hy⟩ : ∃ y, mostR m (.good b) = (y, .bad er) := by
      unfold mostR
      rw [bind_fwd hr1.out, hL]
      exact bind_bad (fun _ => keeps_pure _) hr4.out
    exact ⟨y, er, hy, rfl⟩
  · refine ⟨rfl, .inr ?_, hA1⟩
    obtain ⟨y, hy⟩ := bind_bad (g := fun n => bindR (mustR (withB n m)) fun _ => pureR n) (fun _ => keeps_bind (keeps_must _) fun _ => keeps_pure _) hr1.out
    exact ⟨y, er, hy, rfl⟩
set_option maxRecDepth 100000 in
set_option maxHeartbeats 1000000 in
theorem tk_words (h : Sk O w v b) (N : Nat) (hN : N ≤ 65536) : Calls Try.prog 33 #[v, .int .i64 N] w (Took O w v (timesR (numR 4) N (.good b)) fun x w' u => OwnW w.heap.size w' u x ∧ Wrd x ∧ x.length = N) := by
  have TF : Hid (∀ W b1, Sk O W v b1 → Calls Try.prog 39 #[v, .int .i64 (4 : Nat)] W (Took O W v (numR 4 (.good b1)) fun x _ u => ∃ L : Nat, u = .int .i64 L ∧ x = L ∧ L < 4294967296)) := fun W b1 hW => by
    refine (sk_num hW 4 (by omega)).mono ?_
    rintro e w' ⟨⟨x, b2, u, hr, rfl, rfl, hS⟩ | ⟨x, er, hr, rfl⟩, hA⟩
    · have bd := numR_bd (n := 4) (s := .good b1) (fun b'' e => by cases e; exact hW.2)
      rw [p256_4, hr.out] at bd
      obtain ⟨L, rfl⟩ := Int.eq_ofNat_of_zero_le bd.1
      exact ⟨.inl ⟨_, b2, _, hr, rfl, ⟨L, rfl, rfl, by have := bd.2; dsimp only at this; omega⟩, hS⟩, hA⟩
    · exact ⟨.inr ⟨x, er, hr, rfl⟩, hA⟩
  have HLT : Hid (∀ k, O k → k < w.heap.size) := h.lt
  have HK := Hid.mk9 h
  obtain ⟨g, rfl, hg⟩ := h.ptr
  have hN' : (N : Int) ≤ 65536 := by omega
  clear h
  obtain ⟨i0, hi0, hz0, hz1, hz2⟩ := info_parts slW
  have HI := Hid.mk9 (And.intro hi0 (And.intro hz0 (And.intro hz1 hz2)))
  clear hi0 hz0 hz1 hz2
  go_enter Try.func33, Try.ntmps33
  go_wp2
  go_loopw [5, 7] (fun lv iv wr => ∃ (k : Nat) (L : List Int) (b' : Bs), k ≤ N ∧ iv = .int .i64 k ∧ L.length = k ∧ Wrd L ∧ Sk O wr (.pointer (some ⟨g, 0, none⟩)) b' ∧ OwnW w.heap.size wr lv L ∧ timesR (numR 4) N (.good b) = (L ++ (timesR (numR 4) (N - k) (.good b')).1, (timesR (numR 4) (N - k) (.good b')).2) ∧ Apart O w wr) (fun _ iv _ => N - (intOf iv).toNat)
  case atStart => exact ⟨0, [], b, Nat.zero_le _, rfl, rfl, (fun _ h => by cases h), HK.out, own_none, rfl, Apart.refl _ _⟩
  case round =>
    obtain ⟨k, L, b', hk, rfl, hL, hW, hS, hG, htm, hA⟩ := hrel
    have HS : Hid (Sk O wr (.pointer (some ⟨g, 0, none⟩)) b') := hS
    have HTM := Hid.mk9 htm
    have HA : Hid (Apart O w wr) := hA
    have HL := Hid.mk9 (And.intro hL hW)
    obtain ⟨a0, c0, rfl⟩ := own_form hG
    have HG : Hid (OwnW w.heap.size wr (.slice a0 L.length c0) L) := hG
    clear hS hG htm hA hL hW HK
    by_cases hlt : k < N
    · have hlt' : (k : Int) < N := by omega
      go_wp2_with (first
        | (go_at_call 39; refine (TF.out _ _ HS.out).mono ?_; rintro e w2 ⟨⟨x, b2, u, hr2, rfl, ⟨X, rfl, hx0, hx9⟩, hS2⟩ | ⟨x, er, hr2, rfl⟩, hA2⟩; all_goals (try (have ux := wrap_u32 (y := (X : Int)) (by omega) (by omega); have HX := Hid.mk9 hx9; clear hx9; have O2 : OwnW w.heap.size w2 (.slice a0 L.length c0) L := own_apart HG.out hA2 (fun j h1 h2 => by have := HLT.out j h2; omega); have O3 := Hid.mk9 (O2.later (keep_alloc8 (Below.refl _ _) (.cells #[.int .u32 (X : Int)] 39))); clear O2)))
        | (at_builtin; refine wpList_append_one _ rfl (.tmp 9) (.tmp 13) 22 rfl w.heap.size 39 i0 _ 1 4 Try.underlying22 HI.out.1 HI.out.2.1 HI.out.2.2.1 HI.out.2.2.2 rfl (by decide) (.slice a0 L.length c0) L.length _ rfl O3.out ⟨w2.heap.size, 0, none⟩ 1 [.int .u32 (X : Int)] rfl rfl (news_new w2 #[.int .u32 (X : Int)] _ _ rfl _ rfl) (by intro u hu; rw [List.mem_singleton] at hu; subst hu; rfl) (by have := HL.out.1; unfold maxLen; omega) (by have := HL.out.1; omega) (Nat.le_trans HA.out.size (Nat.le_trans hA2.size (keep_alloc8 (Below.refl _ _) _).size)) ?_; intro a9 c9 w3 own9 grow9 _))
      · go_roundw
        case rel =>
          have up := keep_alloc8 (Below.refl _ w2) (.cells #[.int .u32 (X : Int)] 39)
          have far : ∀ q, (Value.slice a0 L.length c0).ownBlock = some q → w.heap.size ≤ q := fun q hq => (own_oct HG.out q hq).1
          refine ⟨k + 1, L ++ [(X : Int)], b2, by omega, by go_num, by rw [List.length_append, HL.out.1]; rfl, ?_, (hS2.later up).keep grow9.size (fun j h1 h2 => grow9.block j h1 fun e => by have := far j e.symm; have := HLT.out j h2; omega), ?_, times_more HTM.out (by rw [← hx0]; exact hr2.out) hlt, apart_grown ((HA.out.same hA2).then up) grow9 far⟩
          · intro z hz
            rcases List.mem_append.mp hz with hz | hz
            · exact HL.out.2 z hz
            · rw [List.mem_singleton] at hz; subst hz; have := HX.out; exact ⟨by omega, by omega⟩
          · show World.ownsRow _ _ _ _ _ _ _
            rw [List.length_append, List.map_append]; exact own9
        case measure => simp [intOf]; omega
      · refine ⟨rfl, .inr ?_, HA.out.same hA2⟩
        obtain ⟨y, hy⟩ := times_fail HTM.out hr2.out hlt
        exact ⟨y, er, hy, rfl⟩
    · obtain rfl : k = N := by omega
      go_wp2
      go_ret
      have e1 := HTM.out
      rw [Nat.sub_self] at e1
      refine ⟨.inl ⟨L, b', _, ?_, rfl, ⟨HG.out, HL.out.2, HL.out.1⟩, HS.out⟩, HA.out⟩
      rw [e1]; show Hid ((L ++ [], _) = _); rw [List.append_nil]; exact Hid.mk0 rfl
end
end Go.Proofs.Ytlpmkbdoofbmiaa
