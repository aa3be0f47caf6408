/- The closure that takes what was put. -/
import Derived.Test.YtgnokbmhbeeblaaScanActsT
namespace Go.Proofs.Ytgnokbmhbeeblaa
open Go.ChangeShapes Go.WideShapes Go.ChangeAt Go.RowKit
set_option linter.unusedVariables false
set_option linter.unusedSimpArgs false
theorem sum_dig {F : Nat → Int} {x : Int} (x0 : 0 ≤ x) (x1 : x < 4294967296) (h : ∀ i, i < 4 → F i = x / 256 ^ i % 256) : sumZ F 4 = x := by
  have e0 := h 0 (by omega)
  have e1 := h 1 (by omega)
  have e2 := h 2 (by omega)
  have e3 := h 3 (by omega)
  have p0 : (256 : Int) ^ 0 = 1 := by decide
  have p1 : (256 : Int) ^ 1 = 256 := by decide
  have p2 : (256 : Int) ^ 2 = 65536 := by decide
  have p3 : (256 : Int) ^ 3 = 16777216 := by decide
  rw [p0] at e0; rw [p1] at e1; rw [p2] at e2; rw [p3] at e3
  simp only [sumZ, p0, p1, p2, p3]
  omega
theorem eight_dig {F : Nat → Int} {b : Int} (b0 : 0 ≤ b) (b1 : b < 18446744073709551616) (h : ∀ i, i < 8 → F i = b / 256 ^ i % 256) : eightZ F = b := by
  have h1 : sumZ F 4 = b % 4294967296 := sum_dig (by omega) (by omega) fun i hi => by
    rw [h i (by omega)]
    rcases (by omega : i = 0 ∨ i = 1 ∨ i = 2 ∨ i = 3) with rfl | rfl | rfl | rfl
    · rw [show (256 : Int) ^ 0 = 1 from by decide]; omega
    · rw [show (256 : Int) ^ 1 = 256 from by decide]; omega
    · rw [show (256 : Int) ^ 2 = 65536 from by decide]; omega
    · rw [show (256 : Int) ^ 3 = 16777216 from by decide]; omega
  have h2 : sumZ (fun i => F (i + 4)) 4 = b / 4294967296 := sum_dig (by omega) (by omega) fun i hi => by
    show F (i + 4) = _
    rw [h (i + 4) (by omega)]
    rcases (by omega : i = 0 ∨ i = 1 ∨ i = 2 ∨ i = 3) with rfl | rfl | rfl | rfl
    · rw [show (256 : Int) ^ 0 = 1 from by decide, show (256 : Int) ^ (0 + 4) = 4294967296 from by decide]; omega
    · rw [show (256 : Int) ^ 1 = 256 from by decide, show (256 : Int) ^ (1 + 4) = 1099511627776 from by decide]; omega
    · rw [show (256 : Int) ^ 2 = 65536 from by decide, show (256 : Int) ^ (2 + 4) = 281474976710656 from by decide]; omega
    · rw [show (256 : Int) ^ 3 = 16777216 from by decide, show (256 : Int) ^ (3 + 4) = 72057594037927936 from by decide]; omega
  unfold eightZ
  rw [h1, h2]
  omega
theorem text_same {n : Nat} {f g : Nat → Int} (h : ∀ i, i < n → f i = g i) : textF n f = textF n g := by
  unfold textF
  rw [List.map_congr_left fun i hi => h i (by simpa using hi)]
/-- What was put, piece behind piece. -/
structure Laid (F : Nat → Int) (x : Int) (s : ByteArray) (b : Nat) (k : Nat) (f : Nat → Int) : Prop where
  p0 : ∀ i, i < 4 → F i = x / 256 ^ i % 256
  p1 : F 4 = s.size
  p2 : ∀ i, i < s.size → F (i + 1 + 4) = byteZ s i
  p3 : ∀ i, i < 8 → F (i + (1 + s.size) + 4) = (b : Int) / 256 ^ i % 256
  p4 : ∀ i, i < k → F (i + 8 + (1 + s.size) + 4) = f i
theorem bytes_same {w : World} {a : Option Addr} {n : Nat} {f g : Nat → Int} (h : Bytes w a n f) (hg : ∀ i, 0 ≤ g i ∧ g i < 256) (e : ∀ i, i < n → f i = g i) : Bytes w a n g :=
  ⟨hg, h.2.imp id fun ⟨b, off, e1, hc⟩ => ⟨b, off, e1, fun i hi => by rw [hc i hi, e i hi]⟩⟩
theorem err_of {n : Nat} {f : Nat → Int} {d x : Int} (h1 : ¬ (d = 2 ∧ n = 0)) (h2 : wantZ f d x ≤ n) (h3 : d = 2 → nameF (f 0).toNat (fun i => f (i + 1)) = true) (h4 : ¬ d = 4) : errZ n f d x = 0 := by
  unfold errZ
  rw [if_neg h1, if_neg (by omega), if_neg]
  rintro (⟨h, h'⟩ | ⟨h, -⟩)
  · rw [h3 h] at h'; cases h'
  · exact h4 h
set_option maxRecDepth 100000 in
set_option maxHeartbeats 4000000 in
theorem takes_cl {B : Nat} {W : World} {v : Value} {k : Nat} {F f : Nat → Int} (s : ByteArray) (hS : Sc B W v (k + 8 + (1 + s.size) + 4) F) (hB : B ≤ W.heap.size) (x : Int) (x0 : 0 ≤ x) (x1 : x < 4294967296) (b : Nat) (b1 : b < 18446744073709551616) (hL : Laid F x s b k f) (hs : namedB s = true) (hk : k ≤ 200)
    (mb nb tb xb kb : Nat) (hlt : mb < B ∧ nb < B ∧ tb < B ∧ xb < B ∧ kb < B) (hne : mb ≠ kb ∧ nb ≠ kb ∧ tb ≠ kb ∧ xb ≠ kb) (ma : Option Addr) (mc : Nat) (hm : W.cell? ⟨mb, 0, none⟩ = some (.slice ma k mc)) (hmB : Bytes W ma k f) (hma : k ≠ 0 → ∀ x, ma = some x → x.block < B)
    (hn : W.cell? ⟨nb, 0, none⟩ = some (.int .u32 x)) (ht : W.cell? ⟨tb, 0, none⟩ = some (.string s)) (hx : W.cell? ⟨xb, 0, none⟩ = some (.float .f64 b)) (r : Bool) (hr : W.cell? ⟨kb, 0, none⟩ = some (.bool r)) (hz : W.frozen? ⟨kb, 0, none⟩ = false) :
    Calls Try.prog 26 #[v, .pointer (some ⟨mb, 0, none⟩), .pointer (some ⟨nb, 0, none⟩), .pointer (some ⟨tb, 0, none⟩), .pointer (some ⟨xb, 0, none⟩), .pointer (some ⟨kb, 0, none⟩)] W fun e W' => e = .returned (.tuple #[]) ∧ (∃ g, Sc B W' v 0 g) ∧ LowBut B kb W W' ∧ W'.cell? ⟨kb, 0, none⟩ = some (.bool true) := by
  have hF := hS.bd.1
  have hsn : 1 ≤ s.size ∧ s.size ≤ 32 := by
    unfold namedB at hs
    rw [decide_eq_true_eq] at hs
    exact ⟨hs.1, hs.2.1⟩
  have NU : Hid (∀ W', Below W.heap.size W W' → Calls Try.prog 13 #[v, .int .i64 4] W' fun e w' => e = .returned (.int .i64 x) ∧ Sc B w' v (k + 8 + (1 + s.size)) (fun i => F (i + 4)) ∧ Below B W' w') := fun W' hW => by
    refine (number_sc (hS.later hW) (Nat.le_trans hB hW.size) 3 (by decide) (by decide)).mono ?_
    intro e w' hp
    have hw : wantZ F 0 3 = 4 := rfl
    obtain ⟨h1, h2, h3⟩ := hp.ok (err_of (by omega) (by rw [hw]; omega) (by intro h; cases h) (by decide))
    rw [hw] at h2
    refine ⟨h1.trans ?_, h2, h3⟩
    show Ending.returned (.int .i64 (sumZ F 4)) = _
    rw [sum_dig x0 x1 hL.p0]
  have NA : Hid (∀ W', Sc B W' v (k + 8 + (1 + s.size)) (fun i => F (i + 4)) → B ≤ W'.heap.size → Calls Try.prog 15 #[v] W' fun e w' => e = .returned (.string s) ∧ Sc B w' v (k + 8) (fun i => F (i + (1 + s.size) + 4)) ∧ Below B W' w') := fun W' h hB' => by
    refine (name_sc h hB' 0).mono ?_
    intro e w' hp
    have e4 : F (0 + 4) = s.size := hL.p1
    have hw : wantZ (fun i => F (i + 4)) 2 0 = 1 + s.size := by show 1 + F (0 + 4) = _; rw [e4]
    have htx : textF (F (0 + 4)).toNat (fun i => F (i + 1 + 4)) = s := by
      rw [e4, Int.toNat_natCast]
      exact (text_same hL.p2).trans (text_own s)
    have hnm : nameF (F (0 + 4)).toNat (fun i => F (i + 1 + 4)) = true := by
      rw [← named_text _ _ (fun i => hF _), htx]; exact hs
    obtain ⟨h1, h2, h3⟩ := hp.ok (err_of (by omega) (by rw [hw]; omega) (fun _ => hnm) (by decide))
    rw [hw] at h2
    refine ⟨h1.trans ?_, ?_, h3⟩
    · show Ending.returned (.string (textF (F (0 + 4)).toNat (fun i => F (i + 1 + 4)))) = _
      rw [htx]
    · have e5 : k + 8 + (1 + s.size) - ((1 : Int) + s.size).toNat = k + 8 := by omega
      have e6 : ((1 : Int) + s.size).toNat = 1 + s.size := by omega
      rw [e5, e6] at h2
      exact h2
  have FL : Hid (∀ W', Sc B W' v (k + 8) (fun i => F (i + (1 + s.size) + 4)) → B ≤ W'.heap.size → Calls Try.prog 16 #[v] W' fun e w' => e = .returned (.float .f64 b) ∧ Sc B w' v k (fun i => F (i + 8 + (1 + s.size) + 4)) ∧ Below B W' w') := fun W' h hB' => by
    refine (float_sc h hB' 0).mono ?_
    intro e w' hp
    have hw : wantZ (fun i => F (i + (1 + s.size) + 4)) 3 0 = 8 := rfl
    obtain ⟨h1, h2, h3⟩ := hp.ok (err_of (by omega) (by rw [hw]; omega) (by intro h; cases h) (by decide))
    rw [hw] at h2
    refine ⟨h1.trans ?_, h2, h3⟩
    rw [eight_dig (b := (b : Int)) (by omega) (by omega) hL.p3, Int.toNat_natCast]
  have BY : Hid (∀ W', Sc B W' v k (fun i => F (i + 8 + (1 + s.size) + 4)) → B ≤ W'.heap.size → Calls Try.prog 14 #[v, .int .i64 k] W' fun e w' => ∃ a c, e = .returned (.slice a k c) ∧ Bytes w' a k f ∧ (∃ g, Sc B w' v 0 g) ∧ Below B W' w') := fun W' h hB' => by
    refine (bytes_sc h hB' k (by omega) (by omega)).mono ?_
    rintro e w' ⟨a, c, hp, ho⟩
    have hw : wantZ (fun i => F (i + 8 + (1 + s.size) + 4)) 1 k = k := rfl
    have he := err_of (n := k) (f := fun i => F (i + 8 + (1 + s.size) + 4)) (d := 1) (x := k) (by omega) (by rw [hw]; omega) (by intro h; cases h) (by decide)
    obtain ⟨h1, h2, h3⟩ := hp.ok he
    have ho := ho he
    rw [Int.toNat_natCast] at h1 ho
    rw [hw, Int.toNat_natCast, Nat.sub_self] at h2
    refine ⟨a, c, h1, bytes_same (own_bytes ho (fun i => hF _)).2 hmB.1 hL.p4, ⟨_, h2⟩, h3⟩
  have LF : Hid (∀ W' g, Sc B W' v 0 g → Calls Try.prog 28 #[v] W' fun e w' => e = .returned (.int .i64 0) ∧ Below W'.heap.size W' w') := fun W' g h => left_sc h
  have MU : Hid (∀ W' g, Sc B W' v 0 g → Calls Try.prog 29 #[v, .bool true] W' fun e w' => e = .returned (.tuple #[]) ∧ Below W'.heap.size W' w') := fun W' g h => (must_sc h true).mono fun e w' ⟨h, h2⟩ => by
    rcases h with ⟨-, h⟩ | ⟨h, -⟩
    · exact ⟨h, h2⟩
    · cases h
  have SM : Hid (∀ W' a1 c1, Bytes W' a1 k f → Bytes W' ma k f → Calls Try.prog 20 #[.slice a1 k c1, .slice ma k mc] W' fun e w' => e = .returned (.bool true) ∧ Below W'.heap.size W' w') := fun W' a1 c1 h1 h2 => by
    have h := bytes_eq W' a1 ma k k c1 mc f f (by omega) (by omega) h1 h2
    rwa [eqB_same] at h
  have HM : Hid (Bytes W ma k f ∧ (k ≠ 0 → ∀ x, ma = some x → x.block < B)) := ⟨hmB, hma⟩
  have HC : Hid (∀ W', Below B W W' → W'.cell? ⟨mb, 0, none⟩ = some (.slice ma k mc) ∧ W'.cell? ⟨nb, 0, none⟩ = some (.int .u32 x) ∧ W'.cell? ⟨tb, 0, none⟩ = some (.string s) ∧ W'.cell? ⟨xb, 0, none⟩ = some (.float .f64 b) ∧ W'.cell? ⟨kb, 0, none⟩ = some (.bool r) ∧ W'.frozen? ⟨kb, 0, none⟩ = false) := fun W' hW =>
    ⟨cell_low hm hW hlt.1, cell_low hn hW hlt.2.1, cell_low ht hW hlt.2.2.1, cell_low hx hW hlt.2.2.2.1, cell_low hr hW hlt.2.2.2.2, frozen_low hz hW hlt.2.2.2.2⟩
  have HB : Hid (∀ W', Below B W W' → Bytes W' ma k f) := fun W' hW => by
    by_cases h0 : k = 0
    · exact ⟨hmB.1, .inl h0⟩
    · exact ⟨hmB.1, hmB.2.imp id fun ⟨b, off, e, hc⟩ => ⟨b, off, e, fun i hi => cell_low (hc i hi) hW (hma h0 _ e)⟩⟩
  have HD : Hid (∀ W', Below B W W' → (fun W' : World => W'.cell? ⟨mb, 0, none⟩ = some (.slice ma k mc) ∧ W'.cell? ⟨nb, 0, none⟩ = some (.int .u32 x) ∧ W'.cell? ⟨tb, 0, none⟩ = some (.string s) ∧ W'.cell? ⟨xb, 0, none⟩ = some (.float .f64 b)) W') := fun W' hW =>
    ⟨cell_low hm hW hlt.1, cell_low hn hW hlt.2.1, cell_low ht hW hlt.2.2.1, cell_low hx hW hlt.2.2.2.1⟩
  have HE : Hid (∀ W' v, Below B W W' → (fun W' : World => W'.cell? ⟨mb, 0, none⟩ = some (.slice ma k mc) ∧ W'.cell? ⟨nb, 0, none⟩ = some (.int .u32 x) ∧ W'.cell? ⟨tb, 0, none⟩ = some (.string s) ∧ W'.cell? ⟨xb, 0, none⟩ = some (.float .f64 b)) (W'.setCell ⟨kb, 0, none⟩ v)) := fun W' v hW => by
    have far : ∀ c u, c ≠ kb → W.cell? ⟨c, 0, none⟩ = some u → c < B → (W'.setCell ⟨kb, 0, none⟩ v).cell? ⟨c, 0, none⟩ = some u := fun c u hb h hB => by
      rw [World.cell?_setCell_other _ _ _ _ (fun e => hb (congrArg Addr.block e).symm)]; exact cell_low h hW hB
    exact ⟨far _ _ hne.1 hm hlt.1, far _ _ hne.2.1 hn hlt.2.1, far _ _ hne.2.2.1 ht hlt.2.2.1, far _ _ hne.2.2.2 hx hlt.2.2.2.1⟩
  have hbits : ∀ (b : Nat) (w : World), (callFunc 27 #[.float .f64 b]).run Try.prog w = .ok (.value (.int .u64 b)) w := bits_run
  have hwx := wrap_small (y := x) x0 x1
  have hkn : (k : Int) ≤ 200 := by omega
  have hlk := hlt.2.2.2.2
  obtain ⟨g, rfl, hg⟩ := hS.ptr
  clear hS hL hF hsn hs hm hn ht hx hr hz hmB hma hlt hne
  go_enter Try.func26, Try.ntmps26
  go_upto_region 4 with (first
    | (go_at_call 13; refine (NU.out _ (Below.refl _ _)).mono ?_; rintro e w1 ⟨rfl, hS1, hb1⟩; have hc1 := HC.out _ hb1)
    | (go_at_call 15; refine (NA.out _ hS1 (Nat.le_trans hB hb1.size)).mono ?_; rintro e w2 ⟨rfl, hS2, hb2⟩; have hd2 : Below B W w2 := hb1.trans hb2; have hc2 := HC.out _ hd2)
    | (go_at_call 16; refine (FL.out _ hS2 (Nat.le_trans hB hd2.size)).mono ?_; rintro e w3 ⟨rfl, hS3, hb3⟩; have hd3 : Below B W w3 := hd2.trans hb3; obtain ⟨q1, q2, q3, q4, q5, q6⟩ := HC.out _ hd3)
    | (go_at_call 14; refine (BY.out _ hS3 (Nat.le_trans hB hd3.size)).mono ?_; rintro e w4 ⟨a4, c4, rfl, hB4, ⟨g4, hS4⟩, hb4⟩; have hd4 : Below B W w4 := hd3.trans hb4; have hc4 := HC.out _ hd4))
  have D4 : Hid (Below B W w4 ∧ B ≤ w4.heap.size) := ⟨hd4, Nat.le_trans hB hd4.size⟩
  clear NU NA FL BY hb1 hb2 hb3 hb4 hd2 hd3 hd4 hS1 hS2 hS3 hc1 hc2 q1 q2 q3 q4 q5 q6
  have C4 : Hid (w4.cell? ⟨mb, 0, none⟩ = some (.slice ma k mc) ∧ w4.cell? ⟨nb, 0, none⟩ = some (.int .u32 x) ∧ w4.cell? ⟨tb, 0, none⟩ = some (.string s) ∧ w4.cell? ⟨xb, 0, none⟩ = some (.float .f64 b) ∧ w4.cell? ⟨kb, 0, none⟩ = some (.bool r) ∧ w4.frozen? ⟨kb, 0, none⟩ = false) := hc4
  clear hc4
  go_region_held3 (fun W => W.cell? ⟨mb, 0, none⟩ = some (.slice ma k mc) ∧ W.cell? ⟨nb, 0, none⟩ = some (.int .u32 x) ∧ W.cell? ⟨tb, 0, none⟩ = some (.string s) ∧ W.cell? ⟨xb, 0, none⟩ = some (.float .f64 b))
    (first
    | exact HD.out _ D4.out.1
    | exact HD.out _ D4.out.1.drew
    | exact HD.out _ hd6
    | exact HD.out _ hd5
    | exact HE.out _ _ hd6)
    (first
    | (go_at_call 20; refine (SM.out _ _ _ (hB4.later (by first | exact Below.refl _ _ | exact (Below.refl _ _).drew)) (HB.out _ (by first | exact D4.out.1 | exact D4.out.1.drew))).mono ?_; rintro e w5 ⟨rfl, hb5⟩; have hd5 : Below B W w5 := (by first | exact (D4.out.1.drew).trans (hb5.mono D4.out.2) | exact D4.out.1.trans (hb5.mono D4.out.2)))
    | (go_at_call 28; refine (LF.out _ _ (hS4.later (by first | exact (Below.refl _ _).drew.trans hb5 | exact hb5))).mono ?_; rintro e w6 ⟨rfl, hb6⟩; have hd6 : Below B W w6 := hd5.trans (hb6.mono (Nat.le_trans D4.out.2 hb5.size)); obtain ⟨-, -, -, -, q5, q6⟩ := HC.out _ hd6))
  all_goals
    have C7 := World.cell?_setCell_same w6 ⟨kb, 0, none⟩ (.bool true) q5
    have S7 : Hid (Sc B (w6.setCell ⟨kb, 0, none⟩ (.bool true)) (.pointer (some ⟨g, 0, none⟩)) 0 g4) := (((hS4.later (by first | exact (Below.refl _ _).drew.trans hb5 | exact hb5)).later hb6)).low hlk (grown_set' (Below.refl _ _) _ _)
    have L7 : Hid (LowBut B kb W (w6.setCell ⟨kb, 0, none⟩ (.bool true))) := (LowBut.below (LowBut.refl _ _ _) hd6).set _ _
    have Z7 : Hid (B ≤ (w6.setCell ⟨kb, 0, none⟩ (.bool true)).heap.size) := by have := hd6.size; show _ ≤ _; simp; omega
    generalize w6.setCell ⟨kb, 0, none⟩ (.bool true) = w7 at C7 S7 L7 Z7 ⊢
    clear hS4 hB4 q5 q6
    go_wp2_with (go_at_call 29; refine (MU.out _ _ S7.out).mono ?_; rintro e w8 ⟨rfl, hb8⟩)
    go_end0
    exact ⟨rfl, ⟨_, S7.out.later hb8⟩, L7.out.below (hb8.mono Z7.out), cell_later' C7 hb8⟩
end Go.Proofs.Ytgnokbmhbeeblaa
