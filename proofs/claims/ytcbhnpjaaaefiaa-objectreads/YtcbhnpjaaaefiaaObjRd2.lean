/- Counts and names, taken by the document's reader. -/
import Derived.Test.YtcbhnpjaaaefiaaObjRd
namespace Go.Proofs.Ytcbhnpjaaaefiaa
open Go.ChangeShapes Go.WideShapes Go.ChangeAt Go.RowKit
set_option linter.unusedVariables false
set_option linter.unusedSimpArgs false
theorem Rd.code {B Z : Nat} {w : World} {g : Nat} {s : St} (h : Rd B Z w g s) : (∃ b, s = .good b ∧ w.cell? ⟨g, 2, none⟩ = some (.int .i64 0)) ∨ (∃ e, s = .bad e ∧ w.cell? ⟨g, 2, none⟩ = some (.int .i64 e) ∧ (e == 0) = false) := by
  obtain ⟨a, c, i, F, er, ⟨h0, h1, h2⟩, _, _, _, _, hs⟩ := h
  cases s with
  | good b => obtain ⟨rfl, _⟩ := hs; exact .inl ⟨b, rfl, h2⟩
  | bad e => obtain ⟨rfl, he⟩ := hs; exact .inr ⟨_, rfl, h2, by rcases he with rfl | rfl <;> rfl⟩
theorem Apart.same {O : Nat → Prop} {w w1 w2 : World} (h1 : Apart O w w1) (h2 : Apart O w1 w2) : Apart O w w2 := h1.trans h2 fun _ h => .inl h
theorem rd_count {B Z : Nat} {w : World} {g : Nat} {s : St} (h : Rd B Z w g s) (m : Nat) (hm : m ≤ 65535) :
    Calls Try.prog 37 #[.pointer (some ⟨g, 0, none⟩), .int .i64 m] w fun e w' => e = .returned (.int .i64 (countR m s).1) ∧ Rd B Z w' g (countR m s).2 ∧ Apart (G1 g) w w' := by
  have NM : Hid (Calls Try.prog 39 #[.pointer (some ⟨g, 0, none⟩), .int .i64 2] w fun e w' => e = .returned (.int .i64 (numR 2 s).1) ∧ Rd B Z w' g (numR 2 s).2 ∧ Apart (G1 g) w w') := rd_num h 2 (by omega) (by omega)
  have MU : Hid (∀ W b, Rd B Z W g (numR 2 s).2 → Calls Try.prog 35 #[.pointer (some ⟨g, 0, none⟩), .bool b] W fun e w' => e = .returned (.tuple #[]) ∧ Rd B Z w' g (mustR b (numR 2 s).2).2 ∧ Apart (G1 g) W w') := fun W b hW => rd_must hW b
  have ec : countR m s = (match (mustR (decide ((numR 2 s).1 ≤ m)) (numR 2 s).2).2 with
    | .good b => ((numR 2 s).1, .good b)
    | .bad e => (0, .bad e)) := rfl
  have bd := numR_bd (n := 2) h.good_byt
  rw [p256_2] at bd
  obtain ⟨r, er⟩ : ∃ r, (countR m s).1 = r := ⟨_, rfl⟩
  obtain ⟨s2, es⟩ : ∃ s2, (mustR (decide ((numR 2 s).1 ≤ (m : Int))) (numR 2 s).2).2 = s2 := ⟨_, rfl⟩
  have hg1 : Hid (∀ b, s2 = .good b → r = (numR 2 s).1) := fun b e => by rw [← er, ec, es, e]
  have hg2 : Hid (∀ e, s2 = .bad e → r = 0) := fun b e => by rw [← er, ec, es, e]
  have h2 : (countR m s).2 = s2 := by rw [ec, es]; cases s2 <;> rfl
  rw [er, h2]
  clear h2 er ec h
  generalize (numR 2 s).1 = y at *
  generalize (numR 2 s).2 = s1 at *
  by_cases hy : y ≤ m
  · have ey : decide (y ≤ (m : Int)) = true := by simpa using hy
    rw [ey] at es
    go_enter Try.func37, Try.ntmps37
    go_upto_region 3 with (first
      | (go_at_call 39; refine NM.out.mono ?_; rintro e w1 ⟨rfl, hr1, hA1⟩)
      | (go_at_call 35; refine (MU.out _ true hr1).mono ?_; rintro e w2 ⟨rfl, hr2, hA2⟩; rw [es] at hr2))
    have HR2 : Hid (Rd B Z w2 g s2) := hr2
    rcases hr2.code with ⟨b, rfl, hc⟩ | ⟨e, rfl, hc, ne⟩
    · clear hr2
      go_wp2
      go_ret
      exact ⟨by rw [hg1.out b rfl]; rfl, HR2.out, hA1.same hA2⟩
    · clear hr2
      go_wp2
      go_ret
      exact ⟨by rw [hg2.out e rfl]; rfl, HR2.out, hA1.same hA2⟩
  · have ey : decide (y ≤ (m : Int)) = false := by simpa using hy
    rw [ey] at es
    have hy' : (m : Int) < y := by omega
    go_enter Try.func37, Try.ntmps37
    go_upto_region 3 with (first
      | (go_at_call 39; refine NM.out.mono ?_; rintro e w1 ⟨rfl, hr1, hA1⟩)
      | (go_at_call 35; refine (MU.out _ false hr1).mono ?_; rintro e w2 ⟨rfl, hr2, hA2⟩; rw [es] at hr2))
    have HR2 : Hid (Rd B Z w2 g s2) := hr2
    rcases hr2.code with ⟨b, rfl, hc⟩ | ⟨e, rfl, hc, ne⟩
    · clear hr2
      go_wp2
      go_ret
      exact ⟨by rw [hg1.out b rfl]; rfl, HR2.out, hA1.same hA2⟩
    · clear hr2
      go_wp2
      go_ret
      exact ⟨by rw [hg2.out e rfl]; rfl, HR2.out, hA1.same hA2⟩
theorem rd_name {B Z : Nat} {w : World} {g : Nat} {s : St} (h : Rd B Z w g s) :
    Calls Try.prog 38 #[.pointer (some ⟨g, 0, none⟩)] w fun e w' => e = .returned (.string (nameR s).1) ∧ Rd B Z w' g (nameR s).2 ∧ Apart (G1 g) w w' := by
  have NM : Hid (Calls Try.prog 39 #[.pointer (some ⟨g, 0, none⟩), .int .i64 1] w fun e w' => e = .returned (.int .i64 (numR 1 s).1) ∧ Rd B Z w' g (numR 1 s).2 ∧ Apart (G1 g) w w') := rd_num h 1 (by omega) (by omega)
  have bd := numR_bd (n := 1) h.good_byt
  rw [p256_1] at bd
  obtain ⟨L, eL⟩ := Int.eq_ofNat_of_zero_le bd.1
  rw [eL] at NM bd
  have L1 : L < 256 := by omega
  have hl := take_len L (numR 1 s).2
  have TK : Hid (∀ W, Rd B Z W g (numR 1 s).2 → Calls Try.prog 36 #[.pointer (some ⟨g, 0, none⟩), .int .i64 L] W fun e w' => ∃ a c, e = .returned (.slice a L c) ∧ (Head a L c ∧ Bytes w' a L (gF (takeR L (numR 1 s).2).1)) ∧ (∀ x, a = some x → L ≠ 0 → x.block ≠ g) ∧ Rd B Z w' g (takeR L (numR 1 s).2).2 ∧ Apart (G1 g) W w') := fun W hW => rd_take hW L (by omega)
  have CV : Hid (∀ W a c, Bytes W a L (gF (takeR L (numR 1 s).2).1) → (convert 29 9 (.slice a L c)).run Try.prog W = .ok (.string (textL (takeR L (numR 1 s).2).1)) W) := fun W a c hb => by
    have h := text_conv W a L c _ hb
    rwa [← (show textL (takeR L (numR 1 s).2).1 = textF L (gF (takeR L (numR 1 s).2).1) by rw [textL_gF, hl])] at h
  have ND : Hid (∀ W, Calls Try.prog 26 #[.string (textL (takeR L (numR 1 s).2).1)] W fun e w' => e = .returned (.bool (namedB (textL (takeR L (numR 1 s).2).1))) ∧ w' = W) := fun W => rnamed9_any _ W (by rw [textL_size, hl]; omega)
  have MU : Hid (∀ W b, Rd B Z W g (takeR L (numR 1 s).2).2 → Calls Try.prog 35 #[.pointer (some ⟨g, 0, none⟩), .bool b] W fun e w' => e = .returned (.tuple #[]) ∧ Rd B Z w' g (mustR b (takeR L (numR 1 s).2).2).2 ∧ Apart (G1 g) W w') := fun W b hW => rd_must hW b
  have ec : nameR s = (textL (takeR L (numR 1 s).2).1, (mustR (namedB (textL (takeR L (numR 1 s).2).1)) (takeR L (numR 1 s).2).2).2) := by
    have : nameR s = (textL (takeR (numR 1 s).1.toNat (numR 1 s).2).1, (mustR (namedB (textL (takeR (numR 1 s).1.toNat (numR 1 s).2).1)) (takeR (numR 1 s).1.toNat (numR 1 s).2).2).2) := rfl
    rw [this, eL, Int.toNat_natCast]
  rw [ec]
  generalize textL (takeR L (numR 1 s).2).1 = t at *
  generalize (takeR L (numR 1 s).2).2 = s2 at *
  generalize gF (takeR L (numR 1 s).2).1 = f at *
  generalize (numR 1 s).2 = s1 at *
  generalize namedB t = nb at *
  clear h ec eL hl bd
  go_enter Try.func38, Try.ntmps38
  go_wp2_with (first
    | (go_at_call 39; refine NM.out.mono ?_; rintro e w1 ⟨rfl, hr1, hA1⟩)
    | (go_at_call 36; refine (TK.out _ hr1).mono ?_; rintro e w2 ⟨a, c, rfl, ⟨hh2, hb2⟩, ha2, hr2, hA2⟩; have cv := CV.out w2 a c hb2)
    | (go_at_call 26; refine (ND.out _).mono ?_; rintro e w3 ⟨rfl, rfl⟩)
    | (go_at_call 35; refine (MU.out _ nb hr2).mono ?_; rintro e w4 ⟨rfl, hr4, hA4⟩))
  go_ret
  exact ⟨rfl, hr4, (hA1.same hA2).same hA4⟩
end Go.Proofs.Ytcbhnpjaaaefiaa
