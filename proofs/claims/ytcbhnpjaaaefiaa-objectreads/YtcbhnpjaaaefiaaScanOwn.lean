/- What the code's own functions of the scanner return. -/
import Derived.Test.YtcbhnpjaaaefiaaScanOwnA
import Derived.Lib.ConvBytes
namespace Go.Proofs.Ytcbhnpjaaaefiaa
open Go.ChangeShapes Go.WideShapes Go.ChangeAt Go.RowKit
set_option linter.unusedVariables false
set_option linter.unusedSimpArgs false
theorem must_so {O : Nat → Prop} {w : World} {v : Value} {n : Nat} {f : Nat → Int} (h : ScO O w v n f) (b : Bool) :
    Calls Try.prog 66 #[v, .bool b] w fun e w' => (b = true ∧ e = .returned (.tuple #[]) ∨ b = false ∧ e = failE 4) ∧ Below w.heap.size w w' := by
  cases b
  · go_enter Try.func66, Try.ntmps66
    go_wp2
    exact ⟨rfl, .inr ⟨(by first | rfl | trivial), rfl⟩, Below.refl _ _⟩
  · go_enter Try.func66, Try.ntmps66
    go_wp2
    go_end0
    exact ⟨.inl ⟨(by first | rfl | trivial), rfl⟩, Below.refl _ _⟩
/-- The code's number of a list's bytes. -/
theorem get_row {w : World} {a : Option Addr} {k c : Nat} {f : Nat → Int} (h : Bytes w a k f) (k4 : k ≤ 4) :
    Calls Try.prog 103 #[.slice a k c] w fun e w' => e = .returned (.int .u32 (sumZ f k)) ∧ Below w.heap.size w w' := by
  obtain ⟨hf, rfl | ⟨b, off, rfl, hc⟩⟩ := h
  · exact get_nil w c a
  · have h := get_any w b off k c f (by omega) (fun i hi _ => hc i hi) hf
    rwa [Nat.min_eq_left k4] at h
theorem sum_lt {f : Nat → Int} (hf : ∀ i, 0 ≤ f i ∧ f i < 256) {k : Nat} (h : k ≤ 4) : 0 ≤ sumZ f k ∧ sumZ f k < 4294967296 := by
  have := sum_bd f hf k
  rcases (by omega : k = 0 ∨ k = 1 ∨ k = 2 ∨ k = 3 ∨ k = 4) with rfl | rfl | rfl | rfl | rfl
  · rw [show (256 : Int) ^ 0 = 1 from by decide] at this; omega
  · rw [show (256 : Int) ^ 1 = 256 from by decide] at this; omega
  · rw [show (256 : Int) ^ 2 = 65536 from by decide] at this; omega
  · rw [show (256 : Int) ^ 3 = 16777216 from by decide] at this; omega
  · rw [show (256 : Int) ^ 4 = 4294967296 from by decide] at this; omega
/-- A number of so many bytes. -/
theorem number_k {O : Nat → Prop} {w : World} {v : Value} {n : Nat} {f : Nat → Int} (h : ScO O w v n f) (k : Nat) (k4 : k ≤ 4) :
    Calls Try.prog 96 #[v, .int .i64 k] w fun e w' => (((n : Int) < k ∧ e = .panicked [{ v := .iface 30 (.int .i64 2), recovered := false }]) ∨ (k ≤ n ∧ e = .returned (.int .i64 (sumZ f k)) ∧ ScO O w' v (n - k) (fun i => f (i + k)))) ∧ Apart O w w' := by
  have TK : Hid (Calls Try.prog 88 #[v, .int .i64 k] w (TakeO O w v n f k)) := take_so h k (by omega)
  have GR : Hid (∀ W a c, Bytes W a k f → Calls Try.prog 103 #[.slice a k c] W fun e w' => e = .returned (.int .u32 (sumZ f k)) ∧ Below W.heap.size W w') := fun W a c hb => get_row hb k4
  have sb := sum_lt h.bd.1 k4
  have hw := wrap_small sb.1 sb.2
  obtain ⟨g, rfl, hg⟩ := h.ptr
  clear h sb
  generalize sumZ f k = y at *
  by_cases hk : k ≤ n
  · go_enter Try.func96, Try.ntmps96
    go_wp2_with (first
      | (go_at_call 88; refine TK.out.mono ?_; rintro e w1 ⟨h1, hA1⟩; obtain ⟨-, a1, c1, rfl, hh1, hb1, hs1⟩ := h1.resolve_left (by rintro ⟨q, -⟩; omega); rw [Int.toNat_natCast] at hh1 hb1 hs1 ⊢)
      | (go_at_call 103; refine (GR.out _ _ _ hb1).mono ?_; rintro e w2 ⟨rfl, hb2⟩))
    go_ret
    exact ⟨.inr ⟨hk, rfl, hs1.later hb2⟩, hA1.trans (Apart.of_below (O := fun _ => False) hb2) (fun _ h => h.elim)⟩
  · go_enter Try.func96, Try.ntmps96
    go_wp2_with (go_at_call 88; refine TK.out.mono ?_; rintro e w1 ⟨h1, hA1⟩; obtain ⟨q1, rfl⟩ := h1.resolve_right (by rintro ⟨q, -⟩; omega); clear h1)
    exact ⟨rfl, .inl ⟨q1, rfl⟩, hA1⟩
theorem number_so {O : Nat → Prop} {w : World} {v : Value} {n : Nat} {f : Nat → Int} (h : ScO O w v n f) (x : Int) (x0 : 0 ≤ x) (x1 : x ≤ 65535) :
    Calls Try.prog 96 #[v, .int .i64 (1 + x % 4)] w (ActO O w v n f 0 x (.int .i64 (sumZ f (1 + x % 4).toNat))) := by
  obtain ⟨k, hk⟩ := Int.eq_ofNat_of_zero_le (show 0 ≤ 1 + x % 4 by omega)
  rw [hk, Int.toNat_natCast]
  refine (number_k h k (by omega)).mono ?_
  rintro e w' ⟨h1, h2⟩
  have hw : wantZ f 0 x = k := hk
  unfold ActO
  rw [hw, Int.toNat_natCast]
  have he : errZ n f 0 x = if (n : Int) < k then 2 else 0 := by
    unfold errZ
    rw [if_neg (by omega), hw]
    by_cases hq : (n : Int) < k
    · rw [if_pos hq, if_pos hq]
    · rw [if_neg hq, if_neg hq, if_neg (by omega)]
  rw [he]
  rcases h1 with ⟨q, rfl⟩ | ⟨q, rfl, hs⟩
  · rw [if_pos q]; exact ⟨.inl ⟨by decide, rfl⟩, h2⟩
  · rw [if_neg (by omega)]; exact ⟨.inr ⟨rfl, rfl, O, fun _ h => h, fun _ h => .inl h, hs⟩, h2⟩
theorem bytes_so {O : Nat → Prop} {w : World} {v : Value} {n : Nat} {f : Nat → Int} (h : ScO O w v n f) (x : Int) (x0 : 0 ≤ x) (x1 : x ≤ 65535) :
    Calls Try.prog 67 #[v, .int .i64 x] w fun e w' => ∃ a c, ActO O w v n f 1 x (.slice a x.toNat c) e w' ∧ (errZ n f 1 x = 0 → w'.ownsRow w.heap.size 5 1 (.slice a x.toNat c) x.toNat (cellsK .u8 x.toNat f)) := by
  obtain ⟨k, rfl⟩ := Int.eq_ofNat_of_zero_le x0
  have TK : Hid (Calls Try.prog 88 #[v, .int .i64 k] w (TakeO O w v n f k)) := take_so h k (by omega)
  have hw : wantZ f 1 (k : Int) = k := rfl
  have he : errZ n f 1 (k : Int) = if (n : Int) < k then 2 else 0 := by
    unfold errZ
    rw [if_neg (by omega), hw]
    by_cases hq : (n : Int) < k
    · rw [if_pos hq, if_pos hq]
    · rw [if_neg hq, if_neg hq, if_neg (by omega)]
  have HN : Hid (n ≤ 2000000) := h.bd.2
  obtain ⟨g, rfl, hg⟩ := h.ptr
  clear h
  unfold ActO
  rw [he, hw, Int.toNat_natCast]
  clear he hw
  by_cases hk : k ≤ n
  · rw [if_neg (by omega)]
    go_enter Try.func67, Try.ntmps67
    go_wp2_with (first
      | (go_at_call 88; refine TK.out.mono ?_; rintro e w1 ⟨h1, hA1⟩; obtain ⟨-, a1, c1, rfl, hh1, hb1, hs1⟩ := h1.resolve_left (by rintro ⟨q, -⟩; omega); rw [Int.toNat_natCast] at hh1 hb1 hs1 ⊢)
      | (go_at_call 87; refine (clone_own _ a1 k c1 f (by have := HN.out; omega) hh1 hb1).mono ?_; rintro e w2 ⟨a2, c2, rfl, o2, hb2⟩))
    go_ret
    exact ⟨a2, c2, ⟨.inr ⟨(by first | rfl | trivial), rfl, O, fun _ h => h, fun _ h => .inl h, hs1.later hb2⟩, hA1.trans (Apart.of_below (O := fun _ => False) hb2) (fun _ h => h.elim)⟩, fun _ => own_mono o2 hA1.size⟩
  · rw [if_pos (by omega)]
    go_enter Try.func67, Try.ntmps67
    go_wp2_with (go_at_call 88; refine TK.out.mono ?_; rintro e w1 ⟨h1, hA1⟩; obtain ⟨q1, rfl⟩ := h1.resolve_right (by rintro ⟨q, -⟩; omega); clear h1)
    exact ⟨rfl, none, 0, ⟨.inl ⟨by decide, rfl⟩, hA1⟩, fun h => by cases h⟩
set_option maxRecDepth 100000 in
theorem name_so {O : Nat → Prop} {w : World} {v : Value} {n : Nat} {f : Nat → Int} (h : ScO O w v n f) (x : Int) :
    Calls Try.prog 90 #[v] w (ActO O w v n f 2 x (.string (textF (f 0).toNat fun i => f (i + 1)))) := by
  have hbd := h.bd
  obtain ⟨L, eL⟩ := Int.eq_ofNat_of_zero_le (hbd.1 0).1
  have L1 : L < 256 := by have := (hbd.1 0).2; omega
  have NM : Hid (Calls Try.prog 96 #[v, .int .i64 1] w fun e w' => (((n : Int) < (1 : Nat) ∧ e = .panicked [{ v := .iface 30 (.int .i64 2), recovered := false }]) ∨ (1 ≤ n ∧ e = .returned (.int .i64 L) ∧ ScO O w' v (n - 1) (fun i => f (i + 1)))) ∧ Apart O w w') := by
    have h2 := number_k h 1 (by omega)
    have e1 : sumZ f 1 = L := by show 0 + f 0 * 256 ^ 0 = _; rw [eL]; simp
    rw [e1] at h2
    exact h2
  have TK : Hid (∀ W, ScO O W v (n - 1) (fun i => f (i + 1)) → Calls Try.prog 88 #[v, .int .i64 L] W (TakeO O W v (n - 1) (fun i => f (i + 1)) L)) := fun W hW => take_so hW L (by omega)
  have ND : Hid (∀ W, Calls Try.prog 78 #[.string (textF L fun i => f (i + 1))] W fun e w' => e = .returned (.bool (nameF L fun i => f (i + 1))) ∧ Below W.heap.size W w') := fun W => by
    have h := named_any (textF L fun i => f (i + 1)) W (by rw [textF_size]; omega)
    rwa [named_text _ _ (fun i => hbd.1 _)] at h
  have CV : Hid (∀ W a c, Bytes W a L (fun i => f (i + 1)) → (convert 29 9 (.slice a L c)).run Try.prog W = .ok (.string (textF L fun i => f (i + 1))) W) := fun W a c hb => text_conv W a L c _ hb
  have MU : Hid (∀ W m F b, ScO O W v m F → Calls Try.prog 66 #[v, .bool b] W fun e w' => (b = true ∧ e = .returned (.tuple #[]) ∨ b = false ∧ e = .panicked [{ v := .iface 30 (.int .i64 4), recovered := false }]) ∧ Below W.heap.size W w') := fun W m F b hW => must_so hW b
  have hw : wantZ f 2 x = 1 + L := by show 1 + f 0 = _; rw [eL]
  obtain ⟨g, rfl, hg⟩ := h.ptr
  have HS : Hid (ScO O w (.pointer (some ⟨g, 0, none⟩)) n f) := h
  clear h hbd
  have he0 : n = 0 → errZ n f 2 x = 2 := fun h0 => by unfold errZ; rw [if_pos ⟨rfl, h0⟩]
  have he1 : n ≠ 0 → n < 1 + L → errZ n f 2 x = 2 := fun h0 h1 => by unfold errZ; rw [if_neg (by omega), hw, if_pos (by omega)]
  have he2 : 1 + L ≤ n → errZ n f 2 x = if nameF L (fun i => f (i + 1)) = false then 4 else 0 := fun h1 => by
    unfold errZ
    rw [if_neg (by omega), hw, if_neg (by omega), eL]
    have e2 : ((L : Int)).toNat = L := Int.toNat_natCast _
    rw [e2]
    by_cases hq : nameF L (fun i => f (i + 1)) = false
    · rw [if_pos hq, if_pos (.inl ⟨rfl, hq⟩)]
    · rw [if_neg hq, if_neg (by rintro (⟨-, h⟩ | ⟨h, -⟩); exact hq h; revert h; decide)]
  have hwn : (1 + (L : Int)).toNat = 1 + L := by omega
  unfold ActO
  rw [eL, hw, Int.toNat_natCast, hwn]
  clear eL
  by_cases h0 : n = 0
  · rw [he0 h0]
    clear he0 he1 he2
    go_enter Try.func90, Try.ntmps90
    go_wp2_with (go_at_call 96; refine NM.out.mono ?_; rintro e w1 ⟨h1, hA1⟩; obtain ⟨q1, rfl⟩ := h1.resolve_right (by rintro ⟨q, -⟩; omega); clear h1)
    exact ⟨rfl, .inl ⟨by decide, rfl⟩, hA1⟩
  · by_cases h1 : n < 1 + L
    · rw [he1 h0 h1]
      clear he0 he1 he2
      go_enter Try.func90, Try.ntmps90
      go_wp2_with (first
        | (go_at_call 96; refine NM.out.mono ?_; rintro e w1 ⟨q1, hA1⟩; obtain ⟨-, rfl, hs1⟩ := q1.resolve_left (by rintro ⟨q, -⟩; omega); clear q1)
        | (go_at_call 88; refine (TK.out _ hs1).mono ?_; rintro e w2 ⟨q1, hA2⟩; obtain ⟨-, rfl⟩ := q1.resolve_right (by rintro ⟨q, -⟩; omega); clear q1))
      exact ⟨rfl, .inl ⟨by decide, rfl⟩, hA1.trans hA2 (fun _ h => .inl h)⟩
    · rw [he2 (by omega)]
      clear he0 he1 he2
      cases hq : nameF L (fun i => f (i + 1))
      · rw [hq] at ND
        rw [if_pos rfl]
        go_enter Try.func90, Try.ntmps90
        go_wp2_with (first
          | (go_at_call 96; refine NM.out.mono ?_; rintro e w1 ⟨q1, hA1⟩; obtain ⟨-, rfl, hs1⟩ := q1.resolve_left (by rintro ⟨q, -⟩; omega); clear q1)
          | (go_at_call 88; refine (TK.out _ hs1).mono ?_; rintro e w2 ⟨q1, hA2⟩; obtain ⟨-, a2, c2, rfl, hh2, hb2, hs2⟩ := q1.resolve_left (by rintro ⟨q, -⟩; omega); rw [Int.toNat_natCast] at hh2 hb2 hs2 ⊢; clear q1; have cv := CV.out w2 a2 c2 hb2)
          | (go_at_call 78; refine (ND.out _).mono ?_; rintro e w3 ⟨rfl, hb3⟩)
          | (go_at_call 66; refine (MU.out _ _ _ _ (hs2.later hb3)).mono ?_; rintro e w4 ⟨q1, hb4⟩; obtain ⟨-, rfl⟩ := q1.resolve_left (by rintro ⟨q, -⟩; cases q); clear q1))
        exact ⟨rfl, .inl ⟨by decide, rfl⟩, (hA1.trans hA2 (fun _ h => .inl h)).trans (Apart.of_below (O := fun _ => False) (bnext hb3 hb4)) (fun _ h => h.elim)⟩
      · rw [hq] at ND
        rw [if_neg (by decide)]
        go_enter Try.func90, Try.ntmps90
        go_wp2_with (first
          | (go_at_call 96; refine NM.out.mono ?_; rintro e w1 ⟨q1, hA1⟩; obtain ⟨-, rfl, hs1⟩ := q1.resolve_left (by rintro ⟨q, -⟩; omega); clear q1)
          | (go_at_call 88; refine (TK.out _ hs1).mono ?_; rintro e w2 ⟨q1, hA2⟩; obtain ⟨-, a2, c2, rfl, hh2, hb2, hs2⟩ := q1.resolve_left (by rintro ⟨q, -⟩; omega); rw [Int.toNat_natCast] at hh2 hb2 hs2 ⊢; clear q1; have cv := CV.out w2 a2 c2 hb2)
          | (go_at_call 78; refine (ND.out _).mono ?_; rintro e w3 ⟨rfl, hb3⟩)
          | (go_at_call 66; refine (MU.out _ _ _ _ (hs2.later hb3)).mono ?_; rintro e w4 ⟨q1, hb4⟩; obtain ⟨-, rfl⟩ := q1.resolve_right (by rintro ⟨q, -⟩; cases q); clear q1))
        go_ret
        have hs4 : ScO O w4 (.pointer (some ⟨g, 0, none⟩)) (n - (1 + L)) (fun i => f (i + (1 + L))) := by
          have h := (hs2.later hb3).later hb4
          rw [show n - 1 - L = n - (1 + L) from by omega] at h
          have e3 : (fun i => f (i + L + 1)) = fun i => f (i + (1 + L)) := by funext i; rw [show i + L + 1 = i + (1 + L) from by omega]
          rwa [e3] at h
        exact ⟨.inr ⟨(by first | rfl | trivial), rfl, O, fun _ h => h, fun _ h => .inl h, hs4⟩, (hA1.trans hA2 (fun _ h => .inl h)).trans (Apart.of_below (O := fun _ => False) (bnext hb3 hb4)) (fun _ h => h.elim)⟩
theorem count_so {O : Nat → Prop} {w : World} {v : Value} {n : Nat} {f : Nat → Int} (h : ScO O w v n f) (x : Int) (x0 : 0 ≤ x) (x1 : x ≤ 65535) :
    Calls Try.prog 89 #[v, .int .i64 x] w (ActO O w v n f 4 x (.int .i64 (f 0 + 256 * f 1))) := by
  have hbd := h.bd
  obtain ⟨y, ey⟩ : ∃ y, f 0 + 256 * f 1 = y := ⟨_, rfl⟩
  have y0 : 0 ≤ y ∧ y < 65536 := by have := hbd.1 0; have := hbd.1 1; omega
  have NM : Hid (Calls Try.prog 96 #[v, .int .i64 2] w fun e w' => (((n : Int) < (2 : Nat) ∧ e = .panicked [{ v := .iface 30 (.int .i64 2), recovered := false }]) ∨ (2 ≤ n ∧ e = .returned (.int .i64 y) ∧ ScO O w' v (n - 2) (fun i => f (i + 2)))) ∧ Apart O w w') := by
    have h2 := number_k h 2 (by omega)
    have e1 : sumZ f 2 = y := by show 0 + f 0 * 256 ^ 0 + f 1 * 256 ^ 1 = _; rw [← ey, show (256 : Int) ^ 0 = 1 from by decide, show (256 : Int) ^ 1 = 256 from by decide]; omega
    rw [e1] at h2
    exact h2
  have MU : Hid (∀ W m F b, ScO O W v m F → Calls Try.prog 66 #[v, .bool b] W fun e w' => (b = true ∧ e = .returned (.tuple #[]) ∨ b = false ∧ e = .panicked [{ v := .iface 30 (.int .i64 4), recovered := false }]) ∧ Below W.heap.size W w') := fun W m F b hW => must_so hW b
  have hw : wantZ f 4 x = 2 := rfl
  have he : errZ n f 4 x = if n < 2 then 2 else if x < y then 4 else 0 := by
    unfold errZ
    rw [if_neg (by omega), hw, ey]
    by_cases hq : n < 2
    · rw [if_pos hq, if_pos (by omega)]
    · rw [if_neg hq, if_neg (by omega)]
      by_cases hq2 : x < y
      · rw [if_pos hq2, if_pos (.inr ⟨rfl, hq2⟩)]
      · rw [if_neg hq2, if_neg (by omega)]
  obtain ⟨g, rfl, hg⟩ := h.ptr
  clear h hbd
  unfold ActO
  rw [he, hw, ey]
  clear he ey hw
  by_cases h1 : n < 2
  · rw [if_pos h1]
    go_enter Try.func89, Try.ntmps89
    go_wp2_with (go_at_call 96; refine NM.out.mono ?_; rintro e w1 ⟨h1, hA1⟩; obtain ⟨q1, rfl⟩ := h1.resolve_right (by rintro ⟨q, -⟩; omega); clear h1)
    exact ⟨rfl, .inl ⟨by decide, rfl⟩, hA1⟩
  · rw [if_neg h1]
    by_cases h2 : x < y
    · rw [if_pos h2]
      go_enter Try.func89, Try.ntmps89
      go_wp2_with (first
        | (go_at_call 96; refine NM.out.mono ?_; rintro e w1 ⟨q1, hA1⟩; obtain ⟨-, rfl, hs1⟩ := q1.resolve_left (by rintro ⟨q, -⟩; omega); clear q1)
        | (go_at_call 66; refine (MU.out _ _ _ _ hs1).mono ?_; rintro e w4 ⟨q1, hb4⟩; obtain ⟨-, rfl⟩ := q1.resolve_left (by rintro ⟨q, -⟩; simp at q; omega); clear q1))
      exact ⟨rfl, .inl ⟨by decide, rfl⟩, hA1.trans (Apart.of_below (O := fun _ => False) hb4) (fun _ h => h.elim)⟩
    · rw [if_neg h2]
      have h3 : y ≤ x := by omega
      go_enter Try.func89, Try.ntmps89
      go_wp2_with (first
        | (go_at_call 96; refine NM.out.mono ?_; rintro e w1 ⟨q1, hA1⟩; obtain ⟨-, rfl, hs1⟩ := q1.resolve_left (by rintro ⟨q, -⟩; omega); clear q1)
        | (go_at_call 66; refine (MU.out _ _ _ _ hs1).mono ?_; rintro e w4 ⟨q1, hb4⟩; obtain ⟨-, rfl⟩ := q1.resolve_right (by rintro ⟨q, -⟩; revert q; simp; try omega); clear q1))
      go_ret
      exact ⟨.inr ⟨(by first | rfl | trivial), rfl, O, fun _ h => h, fun _ h => .inl h, hs1.later hb4⟩, hA1.trans (Apart.of_below (O := fun _ => False) hb4) (fun _ h => h.elim)⟩
theorem or_64 {y0 y1 : Int} (h0 : 0 ≤ y0) (h1 : y0 < 4294967296) (h2 : 0 ≤ y1) (h3 : y1 < 4294967296) : bits BinOp.or IntKind.u64 (y1 * 4294967296) y0 = y0 + 4294967296 * y1 := by
  obtain ⟨A, rfl⟩ := Int.eq_ofNat_of_zero_le h0
  obtain ⟨B, rfl⟩ := Int.eq_ofNat_of_zero_le h2
  have h := u64_or ((B : Int) * 4294967296) (A : Int) (by omega) (by omega) (by omega) (by omega)
  rw [h]
  have e : ((B : Int) * 4294967296).toNat = B * 4294967296 := by omega
  rw [e, Int.toNat_natCast, nat_join 32 (B * 4294967296) A (by omega) (by omega)]
  omega
theorem new_sc (w : World) (a : Option Addr) (n c : Nat) (f : Nat → Int) (hn : n ≤ 2000000) (hh : Head a n c) (hb : Bytes w a n f) :
    Calls Try.prog 64 #[.slice a n c] w fun e w' => ∃ v, e = .returned v ∧ Sc w.heap.size w' v n f ∧ Below w.heap.size w w' := by
  have CL : Hid (∀ W, Below w.heap.size w W → Calls Try.prog 87 #[.slice a n c] W fun e w' => ∃ a' c', e = .returned (.slice a' n c') ∧ w'.ownsRow W.heap.size 5 1 (.slice a' n c') n (cellsK .u8 n f) ∧ Below W.heap.size W w') := fun W hW => clone_own W a n c f (by omega) hh (hb.later hW)
  have HF : Hid (∀ i, 0 ≤ f i ∧ f i < 256) := hb.1
  clear hb hh
  go_enter Try.func64, Try.ntmps64
  go_wp2_with (go_at_call 87; refine (CL.out _ (by repeat' (first | exact Below.refl _ _ | refine keep_drew8 ?_ | refine keep_alloc8 ?_ _))).mono ?_; rintro e w1 ⟨a1, c1, rfl, o1, b1⟩)
  go_ret
  have hl : ∀ y, a1 = some y → w.heap.size ≤ y.block ∧ y.block < w1.heap.size := fun y e => o1.lt y.block (by rw [e]; rfl)
  have up : Below w1.heap.size w1 (w1.alloc (.cells #[.slice a1 n c1, .int .i64 0] 116)) := (Below.refl _ _).alloc (Nat.le_refl _) _
  have hsz : (w1.alloc (.cells #[.slice a1 n c1, .int .i64 0] 116)).heap.size = w1.heap.size + 1 := by simp
  have hb1 := b1.size
  exact ⟨_, rfl, ⟨fun k => w.heap.size ≤ k ∧ k < w1.heap.size + 1, fun k h => h.1, w1.heap.size, a1, c1, rfl, ⟨⟨hb1, by omega⟩, fun k h => by rw [hsz]; exact h.2⟩, by simp [go_sem], fun y e => ⟨⟨(hl y e).1, by have := (hl y e).2; omega⟩, by have := (hl y e).2; omega⟩, 0, f, ⟨new_cell' w1 _ _ 0 _ rfl, new_cell' w1 _ _ 1 _ rfl⟩, ⟨(own_bytes o1 HF.out).1, (own_bytes o1 HF.out).2.later up⟩, rfl, hn⟩, b1.alloc hb1 _⟩
set_option maxRecDepth 100000 in
theorem put_own (x : Int) (k : Nat) (w : World) (x0 : 0 ≤ x) (x1 : x < 4294967296) (k0 : 1 ≤ k) (k1 : k ≤ 4) :
    Calls Try.prog 83 #[.int .i64 x, .int .i64 k] w fun e w' => ∃ a c, e = .returned (.slice a k c) ∧ w'.ownsRow w.heap.size 5 1 (.slice a k c) k (cellsK .u8 k fun i => x / 256 ^ i % 256) ∧ Below w.heap.size w w' := by
  have hw : IntKind.u32.wrap x = x := by simp [IntKind.wrap, IntKind.bits, IntKind.signed]; omega
  have k0' : (0 : Int) ≤ k := by omega
  have k1' : (k : Int) ≤ 4 := by omega
  have FB : Hid (∀ i, 0 ≤ x / 256 ^ i % 256 ∧ x / 256 ^ i % 256 < 256) := fun i => ⟨Int.emod_nonneg _ (by decide), Int.emod_lt_of_pos _ (by decide)⟩
  have PB : Hid (∀ W, Calls Try.prog 100 #[.int .u32 x] W fun e w' => e = .returned (.agg #[.int .u8 (x / 256 ^ 0 % 256), .int .u8 (x / 256 ^ 1 % 256), .int .u8 (x / 256 ^ 2 % 256), .int .u8 (x / 256 ^ 3 % 256)]) ∧ Below W.heap.size W w') := fun W => by
    refine (put_any x W x0 x1).mono ?_
    rintro e w' ⟨rfl, rfl⟩
    refine ⟨?_, (Below.refl _ _).alloc (Nat.le_refl _) _⟩
    have p3 : x / 256 ^ 3 % 256 = x / 16777216 := by
      have : (256 : Int) ^ 3 = 16777216 := by decide
      rw [this]; omega
    rw [p3]
    simp [bytesOf]
  obtain ⟨y, ey⟩ : ∃ y : Nat → Int, ∀ i, y i = x / 256 ^ i % 256 := ⟨_, fun _ => rfl⟩
  have EY : Hid (∀ i, y i = x / 256 ^ i % 256) := ey
  rw [← ey 0, ← ey 1, ← ey 2, ← ey 3] at PB
  clear ey
  have CL : Hid (∀ W a c, Head a k c → Bytes W a k (fun i => x / 256 ^ i % 256) → Calls Try.prog 87 #[.slice a k c] W fun e w' => ∃ a' c', e = .returned (.slice a' k c') ∧ w'.ownsRow W.heap.size 5 1 (.slice a' k c') k (cellsK .u8 k fun i => x / 256 ^ i % 256) ∧ Below W.heap.size W w') := fun W a c hh hb => clone_own W a k c _ (by omega) hh hb
  have NC : Hid (∀ (W : World) i, i < k → (W.alloc (.cells #[.int .u8 (y 0), .int .u8 (y 1), .int .u8 (y 2), .int .u8 (y 3)] 124)).cell? ⟨W.heap.size, 0 + i, none⟩ = some (.int .u8 (x / 256 ^ i % 256))) := fun W i hi => by
    rw [Nat.zero_add]
    refine new_cell' W _ _ i _ ?_
    rw [← EY.out]
    rcases (by omega : i = 0 ∨ i = 1 ∨ i = 2 ∨ i = 3) with rfl | rfl | rfl | rfl <;> rfl
  go_enter Try.func83, Try.ntmps83
  go_wp2_with (first
    | (go_at_call 100; refine (PB.out _).mono ?_; rintro e w1 ⟨rfl, b1⟩)
    | (go_at_call 87; refine (CL.out _ (some ⟨w1.heap.size, 0, none⟩) 4 ⟨by omega, fun e => by cases e⟩ ⟨FB.out, .inr ⟨w1.heap.size, 0, rfl, NC.out w1⟩⟩).mono ?_; rintro e w2 ⟨a2, c2, rfl, o2, b2⟩))
  go_ret
  exact ⟨a2, c2, rfl, own_mono o2 (keep_alloc8 b1 _).size, bnext (keep_alloc8 b1 _) b2⟩
/-- A text's bytes, in memory of their own. -/
theorem bytes_world (w : World) (s : ByteArray) : Below w.heap.size w (Lib.bytesWorld w 5 s) ∧ Bytes (Lib.bytesWorld w 5 s) (some ⟨w.heap.size, 0, none⟩) s.size (byteZ s) := by
  refine ⟨⟨?_, ?_, ?_, by rw [Lib.bytesWorld_size]; omega, fun k hk => Lib.bytesWorld_at_old w _ s k hk⟩, byteZ_bd s, .inr ⟨_, _, rfl, fun i hi => ?_⟩⟩
  · simp [Lib.bytesWorld, World.freeze, World.alloc, World.drew, -World.alloc_eq, -World.drew_eq]
  · simp [Lib.bytesWorld, World.freeze, World.alloc, World.drew, -World.alloc_eq, -World.drew_eq]
  · simp [Lib.bytesWorld, World.freeze, World.alloc, World.drew, -World.alloc_eq, -World.drew_eq]
  · rw [Nat.zero_add, Lib.bytesWorld_cell w _ s i hi]
    have hl : i < s.data.size := hi
    simp [byteZ, List.getD, hl]
set_option maxRecDepth 100000 in
theorem putname_own (s : ByteArray) (w : World) (hs : namedB s = true) :
    Calls Try.prog 84 #[.string s] w fun e w' => ∃ a c, e = .returned (.slice a (s.size + 1) c) ∧ w'.ownsRow w.heap.size 5 1 (.slice a (s.size + 1) c) (s.size + 1) (cellsK .u8 (s.size + 1) fun i => if i = 0 then (s.size : Int) else byteZ s (i - 1)) ∧ Below w.heap.size w w' := by
  have hsn : 1 ≤ s.size ∧ s.size ≤ 32 := by
    have h := hs
    unfold namedB at h
    rw [decide_eq_true_eq] at h
    exact ⟨h.1, h.2.1⟩
  have PU : Hid (∀ W, Calls Try.prog 83 #[.int .i64 (s.size : Int), .int .i64 1] W fun e w' => ∃ a c, e = .returned (.slice a 1 c) ∧ w'.ownsRow W.heap.size 5 1 (.slice a 1 c) 1 (cellsK .u8 1 fun i => (s.size : Int) / 256 ^ i % 256) ∧ Below W.heap.size W w') := fun W => put_own _ 1 W (by omega) (by omega) (by omega) (by omega)
  have CV : ∀ W, (convert 9 29 (.string s)).run Try.prog W = .ok (.slice (some ⟨W.heap.size, 0, none⟩) s.size (grownCap W s.size 0 5)) (Lib.bytesWorld W 5 s) := fun W => Lib.run_convert_string_bytes W _ _ 5 s Try.underlying9 Try.underlying29 Try.underlying5
  have CC : Hid (∀ (W1 W : World) a1 c1 p, W1.ownsRow w.heap.size 5 1 (.slice a1 1 c1) 1 (cellsK .u8 1 fun i => (s.size : Int) / 256 ^ i % 256) → Below w.heap.size w W1 → Below (Lib.bytesWorld W1 5 s).heap.size (Lib.bytesWorld W1 5 s) W → W.cell? ⟨p, 0, none⟩ = some (.slice a1 1 c1) → W.cell? ⟨p, 1, none⟩ = some (.slice (some ⟨W1.heap.size, 0, none⟩) s.size (grownCap W1 s.size 0 5)) →
      Calls Try.prog 101 #[.slice (some ⟨p, 0, none⟩) 2 2] W fun e w' => ∃ a c, e = .returned (.slice a (s.size + 1) c) ∧ w'.ownsRow w.heap.size 5 1 (.slice a (s.size + 1) c) (s.size + 1) (cellsK .u8 (s.size + 1) fun i => if i = 0 then (s.size : Int) else byteZ s (i - 1)) ∧ Below w.heap.size w w') := fun W1 W a1 c1 p o1 b1 b2 p0 p1 => by
    obtain ⟨q1, q2⟩ := bytes_world W1 s
    have r1 := own_bytes o1 (fun i => ⟨Int.emod_nonneg _ (by decide), Int.emod_lt_of_pos _ (by decide)⟩)
    have bd : ∀ (f : Nat → Int), (∀ i, 0 ≤ f i ∧ f i < 256) → ∀ i, (Lit.int .u8 (f i)).wf = true := fun f hf i => by have := hf i; simp [Lit.wf, IntKind.min, IntKind.max, IntKind.signed, IntKind.bits]; omega
    have t1 : Bytes W a1 1 _ := (r1.2.later q1).later b2
    have t2 : Bytes W (some ⟨W1.heap.size, 0, none⟩) s.size (byteZ s) := q2.later b2
    refine (concat_b W p a1 _ 1 s.size c1 _ _ (byteZ s) (by omega) r1.1 ⟨grownCap_ge W1 _ 0 _, fun e => by cases e⟩ ⟨bd _ t1.1, t1.2⟩ ⟨bd _ t2.1, t2.2⟩ p0 p1).mono ?_
    rintro e w' ⟨a', c', rfl, ow, hb⟩
    rw [Nat.add_comm 1 s.size] at ow ⊢
    have bel := bnext (bnext b1 q1) b2
    refine ⟨a', c', rfl, ?_, bnext bel hb⟩
    have ow' := own_mono ow bel.size
    rwa [cellsK_congr .u8 (s.size + 1) (g := fun i => if i = 0 then (s.size : Int) else byteZ s (i - 1)) (fun j hj => ?_)] at ow'
    by_cases h0 : j = 0
    · subst h0
      simp
      omega
    · rw [if_neg h0, if_neg (by omega)]
  clear hs hsn
  go_enter Try.func84, Try.ntmps84
  go_wp2_with (first
    | (go_at_call 83; refine (PU.out _).mono ?_; rintro e w1 ⟨a1, c1, rfl, o1, b1⟩)
    | (go_at_call 101; refine (CC.out w1 _ a1 c1 _ o1 b1 ((Below.refl _ _).alloc (Nat.le_refl _) _) (new_cell' _ _ _ 0 _ rfl) (new_cell' _ _ _ 1 _ rfl)).mono ?_; rintro e w2 ⟨a2, c2, rfl, o2, b2⟩))
  go_ret
  exact ⟨a2, c2, rfl, o2, b2⟩
end Go.Proofs.Ytcbhnpjaaaefiaa
