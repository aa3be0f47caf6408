/- What the code's own functions of the scanner return. -/
import Derived.Test.YtlpmkbdoofbmiaaScanOwnA
import Derived.Lib.ConvBytes
namespace Go.Proofs.Ytlpmkbdoofbmiaa
open Go.ChangeShapes Go.WideShapes Go.ChangeAt Go.RowKit
set_option linter.unusedVariables false
set_option linter.unusedSimpArgs false
theorem must_so {O : Nat → Prop} {w : World} {v : Value} {n : Nat} {f : Nat → Int} (h : ScO O w v n f) (b : Bool) :
    Calls Try.prog 31 #[v, .bool b] w fun e w' => (b = true ∧ e = .returned (.tuple #[]) ∨ b = false ∧ e = failE 4) ∧ Below w.heap.size w w' := by
  cases b
  · go_enter Try.func31, Try.ntmps31
    go_wp2
    exact ⟨rfl, .inr ⟨(by first | rfl | trivial), rfl⟩, Below.refl _ _⟩
  · go_enter Try.func31, Try.ntmps31
    go_wp2
    go_end0
    exact ⟨.inl ⟨(by first | rfl | trivial), rfl⟩, Below.refl _ _⟩
/-- The code's number of a list's bytes. -/
theorem get_row {w : World} {a : Option Addr} {k c : Nat} {f : Nat → Int} (h : Bytes w a k f) (k4 : k ≤ 4) :
    Calls Try.prog 40 #[.slice a k c] w fun e w' => e = .returned (.int .u32 (sumZ f k)) ∧ Below w.heap.size w w' := by
  obtain ⟨hf, rfl | ⟨b, off, rfl, hc⟩⟩ := h
  · exact get_nil w c a
  · have h := get_any w b off k c f (by omega) (fun i hi _ => hc i hi) hf
    rwa [Nat.min_eq_left k4] at h
theorem sum_lt {f : Nat → Int} (hf : ∀ i, 0 ≤ f i ∧ f i < 256) {k : Nat} (h : k ≤ 4) : 0 ≤ sumZ f k ∧ sumZ f k < 4294967296 := by
  have := sum_bd f hf k
  rcases (by omega : k = 0 ∨ k = 1 ∨ k = 2 ∨ k = 3 ∨ k = 4) with rfl | rfl | rfl | rfl | rfl
  · rw [show (256 : Int) ^ 0 = 1 from by decide] at this; omega
  · rw [show (256 : Int) ^ 1 = 256 from by decide] at this; omega
  · rw [show (256 : Int) ^ 2 = 65536 from by decide] at this; omega
  · rw [show (256 : Int) ^ 3 = 16777216 from by decide] at this; omega
  · rw [show (256 : Int) ^ 4 = 4294967296 from by decide] at this; omega
/-- A number of so many bytes. -/
theorem number_k {O : Nat → Prop} {w : World} {v : Value} {n : Nat} {f : Nat → Int} (h : ScO O w v n f) (k : Nat) (k4 : k ≤ 4) :
    Calls Try.prog 39 #[v, .int .i64 k] w fun e w' => (((n : Int) < k ∧ e = .panicked [{ v := .iface 28 (.int .i64 2), recovered := false }]) ∨ (k ≤ n ∧ e = .returned (.int .i64 (sumZ f k)) ∧ ScO O w' v (n - k) (fun i => f (i + k)))) ∧ Apart O w w' := by
  have TK : Hid (Calls Try.prog 38 #[v, .int .i64 k] w (TakeO O w v n f k)) := take_so h k (by omega)
  have GR : Hid (∀ W a c, Bytes W a k f → Calls Try.prog 40 #[.slice a k c] W fun e w' => e = .returned (.int .u32 (sumZ f k)) ∧ Below W.heap.size W w') := fun W a c hb => get_row hb k4
  have sb := sum_lt h.bd.1 k4
  have hw := wrap_small sb.1 sb.2
  obtain ⟨g, rfl, hg⟩ := h.ptr
  clear h sb
  generalize sumZ f k = y at *
  by_cases hk : k ≤ n
  · go_enter Try.func39, Try.ntmps39
    go_wp2_with (first
      | (go_at_call 38; refine TK.out.mono ?_; rintro e w1 ⟨h1, hA1⟩; obtain ⟨-, a1, c1, rfl, hh1, hb1, hs1⟩ := h1.resolve_left (by rintro ⟨q, -⟩; omega); rw [Int.toNat_natCast] at hh1 hb1 hs1 ⊢)
      | (go_at_call 40; refine (GR.out _ _ _ hb1).mono ?_; rintro e w2 ⟨rfl, hb2⟩))
    go_ret
    exact ⟨.inr ⟨hk, rfl, hs1.later hb2⟩, hA1.trans (Apart.of_below (O := fun _ => False) hb2) (fun _ h => h.elim)⟩
  · go_enter Try.func39, Try.ntmps39
    go_wp2_with (go_at_call 38; refine TK.out.mono ?_; rintro e w1 ⟨h1, hA1⟩; obtain ⟨q1, rfl⟩ := h1.resolve_right (by rintro ⟨q, -⟩; omega); clear h1)
    exact ⟨rfl, .inl ⟨q1, rfl⟩, hA1⟩
theorem number_so {O : Nat → Prop} {w : World} {v : Value} {n : Nat} {f : Nat → Int} (h : ScO O w v n f) (x : Int) (x0 : 0 ≤ x) (x1 : x ≤ 65535) :
    Calls Try.prog 39 #[v, .int .i64 (1 + x % 4)] w (ActO O w v n f 0 x (.int .i64 (sumZ f (1 + x % 4).toNat))) := by
  obtain ⟨k, hk⟩ := Int.eq_ofNat_of_zero_le (show 0 ≤ 1 + x % 4 by omega)
  rw [hk, Int.toNat_natCast]
  refine (number_k h k (by omega)).mono ?_
  rintro e w' ⟨h1, h2⟩
  have hw : wantZ f 0 x = k := hk
  unfold ActO
  rw [hw, Int.toNat_natCast]
  have he : errZ n f 0 x = if (n : Int) < k then 2 else 0 := by
    unfold errZ
    rw [if_neg (by omega), hw]
    by_cases hq : (n : Int) < k
    · rw [if_pos hq, if_pos hq]
    · rw [if_neg hq, if_neg hq, if_neg (by omega)]
  rw [he]
  rcases h1 with ⟨q, rfl⟩ | ⟨q, rfl, hs⟩
  · rw [if_pos q]; exact ⟨.inl ⟨by decide, rfl⟩, h2⟩
  · rw [if_neg (by omega)]; exact ⟨.inr ⟨rfl, rfl, O, fun _ h => h, fun _ h => .inl h, hs⟩, h2⟩
theorem bytes_so {O : Nat → Prop} {w : World} {v : Value} {n : Nat} {f : Nat → Int} (h : ScO O w v n f) (x : Int) (x0 : 0 ≤ x) (x1 : x ≤ 65535) :
    Calls Try.prog 32 #[v, .int .i64 x] w fun e w' => ∃ a c, ActO O w v n f 1 x (.slice a x.toNat c) e w' ∧ (errZ n f 1 x = 0 → w'.ownsRow w.heap.size 5 1 (.slice a x.toNat c) x.toNat (cellsK .u8 x.toNat f)) := by
  obtain ⟨k, rfl⟩ := Int.eq_ofNat_of_zero_le x0
  have TK : Hid (Calls Try.prog 38 #[v, .int .i64 k] w (TakeO O w v n f k)) := take_so h k (by omega)
  have hw : wantZ f 1 (k : Int) = k := rfl
  have he : errZ n f 1 (k : Int) = if (n : Int) < k then 2 else 0 := by
    unfold errZ
    rw [if_neg (by omega), hw]
    by_cases hq : (n : Int) < k
    · rw [if_pos hq, if_pos hq]
    · rw [if_neg hq, if_neg hq, if_neg (by omega)]
  have HN : Hid (n ≤ 2000000) := h.bd.2
  obtain ⟨g, rfl, hg⟩ := h.ptr
  clear h
  unfold ActO
  rw [he, hw, Int.toNat_natCast]
  clear he hw
  by_cases hk : k ≤ n
  · rw [if_neg (by omega)]
    go_enter Try.func32, Try.ntmps32
    go_wp2_with (first
      | (go_at_call 38; refine TK.out.mono ?_; rintro e w1 ⟨h1, hA1⟩; obtain ⟨-, a1, c1, rfl, hh1, hb1, hs1⟩ := h1.resolve_left (by rintro ⟨q, -⟩; omega); rw [Int.toNat_natCast] at hh1 hb1 hs1 ⊢)
      | (go_at_call 37; refine (clone_own _ a1 k c1 f (by have := HN.out; omega) hh1 hb1).mono ?_; rintro e w2 ⟨a2, c2, rfl, o2, hb2⟩))
    go_ret
    exact ⟨a2, c2, ⟨.inr ⟨(by first | rfl | trivial), rfl, O, fun _ h => h, fun _ h => .inl h, hs1.later hb2⟩, hA1.trans (Apart.of_below (O := fun _ => False) hb2) (fun _ h => h.elim)⟩, fun _ => own_mono o2 hA1.size⟩
  · rw [if_pos (by omega)]
    go_enter Try.func32, Try.ntmps32
    go_wp2_with (go_at_call 38; refine TK.out.mono ?_; rintro e w1 ⟨h1, hA1⟩; obtain ⟨q1, rfl⟩ := h1.resolve_right (by rintro ⟨q, -⟩; omega); clear h1)
    exact ⟨rfl, none, 0, ⟨.inl ⟨by decide, rfl⟩, hA1⟩, fun h => by cases h⟩
theorem new_sc (w : World) (a : Option Addr) (n c : Nat) (f : Nat → Int) (hn : n ≤ 2000000) (hh : Head a n c) (hb : Bytes w a n f) :
    Calls Try.prog 29 #[.slice a n c] w fun e w' => ∃ v, e = .returned v ∧ Sc w.heap.size w' v n f ∧ Below w.heap.size w w' := by
  have CL : Hid (∀ W, Below w.heap.size w W → Calls Try.prog 37 #[.slice a n c] W fun e w' => ∃ a' c', e = .returned (.slice a' n c') ∧ w'.ownsRow W.heap.size 5 1 (.slice a' n c') n (cellsK .u8 n f) ∧ Below W.heap.size W w') := fun W hW => clone_own W a n c f (by omega) hh (hb.later hW)
  have HF : Hid (∀ i, 0 ≤ f i ∧ f i < 256) := hb.1
  clear hb hh
  go_enter Try.func29, Try.ntmps29
  go_wp2_with (go_at_call 37; refine (CL.out _ (by repeat' (first | exact Below.refl _ _ | refine keep_drew8 ?_ | refine keep_alloc8 ?_ _))).mono ?_; rintro e w1 ⟨a1, c1, rfl, o1, b1⟩)
  go_ret
  have hl : ∀ y, a1 = some y → w.heap.size ≤ y.block ∧ y.block < w1.heap.size := fun y e => o1.lt y.block (by rw [e]; rfl)
  have up : Below w1.heap.size w1 (w1.alloc (.cells #[.slice a1 n c1, .int .i64 0] 64)) := (Below.refl _ _).alloc (Nat.le_refl _) _
  have hsz : (w1.alloc (.cells #[.slice a1 n c1, .int .i64 0] 64)).heap.size = w1.heap.size + 1 := by simp
  have hb1 := b1.size
  exact ⟨_, rfl, ⟨fun k => w.heap.size ≤ k ∧ k < w1.heap.size + 1, fun k h => h.1, w1.heap.size, a1, c1, rfl, ⟨⟨hb1, by omega⟩, fun k h => by rw [hsz]; exact h.2⟩, by simp [go_sem], fun y e => ⟨⟨(hl y e).1, by have := (hl y e).2; omega⟩, by have := (hl y e).2; omega⟩, 0, f, ⟨new_cell' w1 _ _ 0 _ rfl, new_cell' w1 _ _ 1 _ rfl⟩, ⟨(own_bytes o1 HF.out).1, (own_bytes o1 HF.out).2.later up⟩, rfl, hn⟩, b1.alloc hb1 _⟩
set_option maxRecDepth 100000 in
theorem put_own (x : Int) (k : Nat) (w : World) (x0 : 0 ≤ x) (x1 : x < 4294967296) (k0 : 1 ≤ k) (k1 : k ≤ 4) :
    Calls Try.prog 26 #[.int .i64 x, .int .i64 k] w fun e w' => ∃ a c, e = .returned (.slice a k c) ∧ w'.ownsRow w.heap.size 5 1 (.slice a k c) k (cellsK .u8 k fun i => x / 256 ^ i % 256) ∧ Below w.heap.size w w' := by
  have hw : IntKind.u32.wrap x = x := by simp [IntKind.wrap, IntKind.bits, IntKind.signed]; omega
  have k0' : (0 : Int) ≤ k := by omega
  have k1' : (k : Int) ≤ 4 := by omega
  have FB : Hid (∀ i, 0 ≤ x / 256 ^ i % 256 ∧ x / 256 ^ i % 256 < 256) := fun i => ⟨Int.emod_nonneg _ (by decide), Int.emod_lt_of_pos _ (by decide)⟩
  have PB : Hid (∀ W, Calls Try.prog 36 #[.int .u32 x] W fun e w' => e = .returned (.agg #[.int .u8 (x / 256 ^ 0 % 256), .int .u8 (x / 256 ^ 1 % 256), .int .u8 (x / 256 ^ 2 % 256), .int .u8 (x / 256 ^ 3 % 256)]) ∧ Below W.heap.size W w') := fun W => by
    refine (put_any x W x0 x1).mono ?_
    rintro e w' ⟨rfl, rfl⟩
    refine ⟨?_, (Below.refl _ _).alloc (Nat.le_refl _) _⟩
    have p3 : x / 256 ^ 3 % 256 = x / 16777216 := by
      have : (256 : Int) ^ 3 = 16777216 := by decide
      rw [this]; omega
    rw [p3]
    simp [bytesOf]
  obtain ⟨y, ey⟩ : ∃ y : Nat → Int, ∀ i, y i = x / 256 ^ i % 256 := ⟨_, fun _ => rfl⟩
  have EY : Hid (∀ i, y i = x / 256 ^ i % 256) := ey
  rw [← ey 0, ← ey 1, ← ey 2, ← ey 3] at PB
  clear ey
  have CL : Hid (∀ W a c, Head a k c → Bytes W a k (fun i => x / 256 ^ i % 256) → Calls Try.prog 37 #[.slice a k c] W fun e w' => ∃ a' c', e = .returned (.slice a' k c') ∧ w'.ownsRow W.heap.size 5 1 (.slice a' k c') k (cellsK .u8 k fun i => x / 256 ^ i % 256) ∧ Below W.heap.size W w') := fun W a c hh hb => clone_own W a k c _ (by omega) hh hb
  have NC : Hid (∀ (W : World) i, i < k → (W.alloc (.cells #[.int .u8 (y 0), .int .u8 (y 1), .int .u8 (y 2), .int .u8 (y 3)] 59)).cell? ⟨W.heap.size, 0 + i, none⟩ = some (.int .u8 (x / 256 ^ i % 256))) := fun W i hi => by
    rw [Nat.zero_add]
    refine new_cell' W _ _ i _ ?_
    rw [← EY.out]
    rcases (by omega : i = 0 ∨ i = 1 ∨ i = 2 ∨ i = 3) with rfl | rfl | rfl | rfl <;> rfl
  go_enter Try.func26, Try.ntmps26
  go_wp2_with (first
    | (go_at_call 36; refine (PB.out _).mono ?_; rintro e w1 ⟨rfl, b1⟩)
    | (go_at_call 37; refine (CL.out _ (some ⟨w1.heap.size, 0, none⟩) 4 ⟨by omega, fun e => by cases e⟩ ⟨FB.out, .inr ⟨w1.heap.size, 0, rfl, NC.out w1⟩⟩).mono ?_; rintro e w2 ⟨a2, c2, rfl, o2, b2⟩))
  go_ret
  exact ⟨a2, c2, rfl, own_mono o2 (keep_alloc8 b1 _).size, bnext (keep_alloc8 b1 _) b2⟩
end Go.Proofs.Ytlpmkbdoofbmiaa
