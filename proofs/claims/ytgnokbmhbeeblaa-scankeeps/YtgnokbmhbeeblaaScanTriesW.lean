/- The walk over what is tried. -/
import Derived.Test.YtgnokbmhbeeblaaScanAwake
namespace Go.Proofs.Ytgnokbmhbeeblaa
open Go.ChangeShapes Go.WideShapes Go.ChangeAt Go.RowKit
set_option linter.unusedVariables false
set_option linter.unusedSimpArgs false
theorem take_cut' {n : Nat} {f : Nat → Int} {d x : Int} (h : (n : Int) < wantZ f d x) : errZ n f d x = 2 := by
  unfold errZ; split; rfl; first | rfl | rw [if_pos h]
theorem err_bytes (n : Nat) (f : Nat → Int) (x : Int) : errZ n f 1 x = if (n : Int) < x then 2 else 0 := by
  have hw : wantZ f 1 x = x := rfl
  unfold errZ
  rw [if_neg (by omega), hw]
  by_cases h : (n : Int) < x
  · rw [if_pos h, if_pos h]
  · rw [if_neg h, if_neg h, if_neg (by omega)]
theorem tries1_cl (v : Value) (W : World) : Calls Try.prog 30 #[v] W fun e W' => e = .returned (.tuple #[]) ∧ W' = W := by
  go_enter Try.func30, Try.ntmps30
  go_wp2
  go_end0
  exact ⟨rfl, rfl⟩
theorem try_none (w : World) (a : Option Addr) (n c : Nat) (f : Nat → Int) (hn : n ≤ 1000) (hh : Head a n c) (hb : Bytes w a n f) :
    Calls Try.prog 10 #[.slice a n c, .func (.func 30) #[] #[]] w fun e w' => e = .returned (.int .i64 (if n = 0 then 0 else 2)) ∧ Below w.heap.size w w' := by
  refine (try_st w a n c f hn hh hb 30 (enters Try.func30 (by kernel_rfl) rfl) #[] (fun W er => er = (if n = 0 then 0 else 2) ∧ Below w.heap.size w W) ?_ ?_).mono ?_
  · rintro W W' er ⟨h1, h2⟩ hB
    exact ⟨h1, h2.trans hB⟩
  · intro W B v hW hB1 hB2 hS
    refine (tries1_cl v W).mono ?_
    rintro e W' ⟨rfl, rfl⟩
    exact ⟨.inl ⟨n, f, rfl, hS, rfl, hW⟩, Mid.of_below (Below.refl _ _)⟩
  · rintro e w' ⟨er, rfl, ⟨rfl, h2⟩, -⟩
    exact ⟨rfl, h2⟩
set_option maxRecDepth 100000 in
theorem tries2_cl {B : Nat} {W : World} {v : Value} {n : Nat} {f : Nat → Int} (hS : Sc B W v n f) (hB : B ≤ W.heap.size) (kb nb : Nat) (hkb : kb < B ∧ nb < B) (ok : Bool) (x : Int) (x0 : 0 ≤ x) (x1 : x < 65536) (hk : W.cell? ⟨kb, 0, none⟩ = some (.bool ok)) (hx : W.cell? ⟨nb, 0, none⟩ = some (.int .u16 x)) :
    Calls Try.prog 31 #[v, .pointer (some ⟨kb, 0, none⟩), .pointer (some ⟨nb, 0, none⟩)] W fun e W' => ((ok = false ∧ e = failE 4) ∨ (ok = true ∧ (n : Int) < x ∧ e = failE 2) ∨ (ok = true ∧ x ≤ n ∧ e = .returned (.tuple #[]) ∧ ∃ g, Sc B W' v 0 g)) ∧ Below B W W' := by
  have hn := hS.bd.2
  cases ok
  · have MU : Hid (Calls Try.prog 29 #[v, .bool false] W fun e w' => e = .panicked [{ v := .iface 27 (.int .i64 4), recovered := false }] ∧ Below W.heap.size W w') := (must_sc hS false).mono fun e w' ⟨h, h2⟩ => by
      rcases h with ⟨h, -⟩ | ⟨-, h⟩
      · cases h
      · exact ⟨h, h2⟩
    obtain ⟨g, rfl, hg⟩ := hS.ptr
    clear hS
    go_enter Try.func31, Try.ntmps31
    go_wp2_with (go_at_call 29; refine MU.out.mono ?_; rintro e w1 ⟨rfl, b1⟩)
    exact ⟨rfl, .inl ⟨(by first | rfl | trivial), rfl⟩, b1.mono hB⟩
  · have MU : Hid (Calls Try.prog 29 #[v, .bool true] W fun e w' => e = .returned (.tuple #[]) ∧ Below W.heap.size W w') := (must_sc hS true).mono fun e w' ⟨h, h2⟩ => by
      rcases h with ⟨-, h⟩ | ⟨h, -⟩
      · exact ⟨h, h2⟩
      · cases h
    have BY : Hid (∀ W', Below W.heap.size W W' → Calls Try.prog 14 #[v, .int .i64 x] W' fun e w' => ∃ a c, ActPost B W' v n f 1 x (.slice a x.toNat c) e w' ∧ (errZ n f 1 x = 0 → w'.ownsRow W'.heap.size 5 1 (.slice a x.toNat c) x.toNat (cellsK .u8 x.toNat f))) := fun W' hW => bytes_sc (hS.later hW) (Nat.le_trans hB hW.size) x x0 (by omega)
    have L2 : Hid (∀ W' m g, Sc B W' v m g → Calls Try.prog 28 #[v] W' fun e w' => e = .returned (.int .i64 m) ∧ Below W'.heap.size W' w') := fun W' m g h => left_sc h
    have B2 : Hid (∀ W' m g, Sc B W' v m g → B ≤ W'.heap.size → Calls Try.prog 14 #[v, .int .i64 m] W' fun e w' => (∃ a c, e = .returned (.slice a m c)) ∧ (∃ g, Sc B w' v 0 g) ∧ Below B W' w') := fun W' m g h hB' => by
      have hm := h.bd.2
      refine (bytes_sc h hB' m (by omega) (by omega)).mono ?_
      rintro e w' ⟨a, c, hp, -⟩
      have he : errZ m g 1 m = 0 := by
        rw [err_bytes, if_neg (by omega)]
      obtain ⟨rfl, hs, hb⟩ := hp.ok he
      have e1 : m - (wantZ g 1 (m : Int)).toNat = 0 := by
        have : wantZ g 1 (m : Int) = m := rfl
        rw [this, Int.toNat_natCast]; omega
      rw [e1] at hs
      exact ⟨⟨a, c, by rw [Int.toNat_natCast]⟩, ⟨_, hs⟩, hb⟩
    obtain ⟨g, rfl, hg⟩ := hS.ptr
    clear hS
    by_cases hlt : (n : Int) < x
    · have HE : Hid (errZ n f 1 x = 2) := by
        show _ = _
        have : wantZ f 1 x = x := rfl
        exact (take_cut' (by rw [this]; exact hlt))
      go_enter Try.func31, Try.ntmps31
      go_wp2_with (first
        | (go_at_call 29; refine MU.out.mono ?_; rintro e w1 ⟨rfl, b1⟩; have hx1 := cell_later' hx b1)
        | (go_at_call 14; refine (BY.out _ b1).mono ?_; rintro e w2 ⟨a2, c2, hp, -⟩; obtain ⟨rfl, b2⟩ := hp.bad (by rw [HE.out]; decide)))
      rw [HE.out]
      exact ⟨rfl, .inr (.inl ⟨(by first | rfl | trivial), hlt, rfl⟩), (b1.mono hB).trans b2⟩
    · have HE : Hid (errZ n f 1 x = 0) := by
        show _ = _
        rw [err_bytes, if_neg hlt]
      go_enter Try.func31, Try.ntmps31
      go_wp2_with (first
        | (go_at_call 29; refine MU.out.mono ?_; rintro e w1 ⟨rfl, b1⟩; have hx1 := cell_later' hx b1)
        | (go_at_call 28; refine (L2.out _ _ _ hS2).mono ?_; rintro e w3 ⟨rfl, b3⟩)
        | (have q := b3; go_at_call 14; refine (B2.out _ _ _ (hS2.later b3) (Nat.le_trans (Nat.le_trans hB (Nat.le_trans b1.size b2.size)) b3.size)).mono ?_; rintro e w4 ⟨⟨a4, c4, rfl⟩, hS4, b4⟩)
        | (go_at_call 14; refine (BY.out _ b1).mono ?_; rintro e w2 ⟨a2, c2, hp, -⟩; obtain ⟨rfl, hS2, b2⟩ := hp.ok HE.out))
      go_end0
      exact ⟨.inr (.inr ⟨(by first | rfl | trivial), by omega, rfl, hS4⟩), (((b1.mono hB).trans b2).trans (b3.mono (Nat.le_trans hB (Nat.le_trans b1.size b2.size)))).trans b4⟩
theorem try_two (w : World) (a : Option Addr) (n c : Nat) (f : Nat → Int) (hn : n ≤ 1000) (hh : Head a n c) (hb : Bytes w a n f) (kb nb : Nat) (hkb : kb < w.heap.size ∧ nb < w.heap.size) (ok : Bool) (x : Int) (x0 : 0 ≤ x) (x1 : x < 65536) (hk : w.cell? ⟨kb, 0, none⟩ = some (.bool ok)) (hx : w.cell? ⟨nb, 0, none⟩ = some (.int .u16 x)) :
    Calls Try.prog 10 #[.slice a n c, .func (.func 31) #[] #[.pointer (some ⟨kb, 0, none⟩), .pointer (some ⟨nb, 0, none⟩)]] w fun e w' => e = .returned (.int .i64 (if ok = false then 4 else if (n : Int) < x then 2 else 0)) ∧ Below w.heap.size w w' := by
  refine (try_st w a n c f hn hh hb 31 (enters Try.func31 (by kernel_rfl) rfl) #[.pointer (some ⟨kb, 0, none⟩), .pointer (some ⟨nb, 0, none⟩)] (fun W er => er = (if ok = false then 4 else if (n : Int) < x then 2 else 0) ∧ Below w.heap.size w W) ?_ ?_).mono ?_
  · rintro W W' er ⟨h1, h2⟩ hB
    exact ⟨h1, h2.trans hB⟩
  · intro W B v hW hB1 hB2 hS
    refine (tries2_cl hS hB2 kb nb ⟨by omega, by omega⟩ ok x x0 x1 (cell_low hk hW hkb.1) (cell_low hx hW hkb.2)).mono ?_
    rintro e W' ⟨h1, hb1⟩
    have hB' : Below w.heap.size w W' := hW.trans (hb1.mono hB1)
    refine ⟨?_, Mid.of_below hb1⟩
    rcases h1 with ⟨rfl, rfl⟩ | ⟨rfl, hlt, rfl⟩ | ⟨rfl, hge, rfl, g, hg⟩
    · exact .inr ⟨4, rfl, rfl, hB'⟩
    · exact .inr ⟨2, rfl, by rw [if_neg (by decide), if_pos hlt], hB'⟩
    · exact .inl ⟨0, g, rfl, hg, by show (if (0 : Nat) = 0 then (0 : Int) else 2) = _; rw [if_pos rfl, if_neg (by decide), if_neg (by omega)], hB'⟩
  · rintro e w' ⟨er, rfl, ⟨rfl, h2⟩, -⟩
    exact ⟨rfl, h2⟩
set_option maxRecDepth 100000 in
set_option maxHeartbeats 2000000 in
theorem tries_walk (w : World) (a : Option Addr) (n c : Nat) (f : Nat → Int) (hh : Head a n c) (hb : Bytes w a n f) (hm : n ≤ 9223372036854775807) (x : Int) (x0 : 0 ≤ x) (x1 : x < 65536) (ok : Bool) :
    Calls Try.prog 6 #[.slice a n c, .int .u16 x, .bool ok] w fun e w' => e = .returned (.bool true) ∧ Below w.heap.size w w' := by
  have AW : Hid (∀ W, Calls Try.prog 8 #[] W fun e w' => e = .returned (.bool true) ∧ Below W.heap.size W w') := awake_true
  have HB : Hid (Bytes w a n f) := hb
  have hmk := makes
  clear hb
  go_enter Try.func6, Try.ntmps6
  go_upto_region 1 with fail
  have B0 : Hid (Below w.heap.size w ((w.alloc (.cells #[.int .u16 x] 54)).alloc (.cells #[.bool ok] 4))) := ((Below.refl _ w).alloc (Nat.le_refl _) _).alloc (by simp) _
  have X0 : Hid (((w.alloc (.cells #[.int .u16 x] 54)).alloc (.cells #[.bool ok] 4)).cell? ⟨w.heap.size, 0, none⟩ = some (.int .u16 x)) := cell_later' (new_cell' w _ _ 0 _ rfl) ((Below.refl _ _).alloc (Nat.le_refl _) _)
  have X1 : Hid (((w.alloc (.cells #[.int .u16 x] 54)).alloc (.cells #[.bool ok] 4)).cell? ⟨w.heap.size + 1, 0, none⟩ = some (.bool ok)) := by
    have h := new_cell' (w.alloc (.cells #[.int .u16 x] 54)) #[.bool ok] 4 0 _ rfl
    rwa [show (w.alloc (.cells #[.int .u16 x] 54)).heap.size = w.heap.size + 1 from by simp] at h
  generalize (w.alloc (.cells #[.int .u16 x] 54)).alloc (.cells #[.bool ok] 4) = w0 at B0 X0 X1 ⊢
  by_cases h1 : 300 < (n : Int)
  · go_wp2_with (first
      | (go_at_call 8; refine (AW.out w0).mono ?_; rintro e w1 ⟨rfl, b1⟩)
      | (go_at_call 8; refine (AW.out _).mono ?_; rintro e w2 ⟨rfl, b2⟩))
    go_ret
    exact ⟨rfl, bnext B0.out (bnext b1 b2)⟩
  have h1' : (n : Int) ≤ 300 := by omega
  go_upto_region 3 with (go_at_call 8; refine (AW.out w0).mono ?_; rintro e w1 ⟨rfl, b1⟩)
  have BW1 : Hid (Below w.heap.size w w1) := bnext B0.out b1
  have Y0 : Hid (w1.cell? ⟨w.heap.size, 0, none⟩ = some (.int .u16 x)) := cell_later' X0.out b1
  have Y1 : Hid (w1.cell? ⟨w.heap.size + 1, 0, none⟩ = some (.bool ok)) := cell_later' X1.out b1
  have T1 : Hid (∀ W, Below w.heap.size w W → Calls Try.prog 10 #[.slice a n c, .func (.func 30) #[] #[]] W fun e w' => e = .returned (.int .i64 (if n = 0 then 0 else 2)) ∧ Below W.heap.size W w') := fun W hW => try_none W a n c f (by omega) hh (HB.out.later hW)
  clear b1 X0 X1 B0
  clear w0
  go_upto_region 4 with (go_at_call 10; refine (T1.out _ BW1.out).mono ?_; rintro e w2 ⟨rfl, b2⟩)
  have z0 := cell_later' Y0.out b2
  have z1 := cell_later' Y1.out b2
  have T2 : Hid (Calls Try.prog 10 #[.slice a n c, .func (.func 31) #[] #[.pointer (some ⟨w.heap.size + 1, 0, none⟩), .pointer (some ⟨w.heap.size, 0, none⟩)]] w2 fun e w' => e = .returned (.int .i64 (if ok = false then 4 else if (n : Int) < x then 2 else 0)) ∧ Below w2.heap.size w2 w') :=
    try_two w2 a n c f (by omega) hh (HB.out.later (bnext BW1.out b2)) _ _ ⟨World.block_lt_of_cell? w2 ⟨w.heap.size + 1, 0, none⟩ z1, World.block_lt_of_cell? w2 ⟨w.heap.size, 0, none⟩ z0⟩ ok x x0 x1 z1 z0
  have B2 : Hid (Below w.heap.size w w2) := bnext BW1.out b2
  clear b2
  have x1' : x ≤ 65535 := by omega
  cases ok
  · rcases (by omega : n = 0 ∨ ¬ n = 0) with hz | hz
    · subst hz
      rw [if_pos rfl] at T2 ⊢
      go_wp2_with (go_at_call 10; refine T2.out.mono ?_; rintro e w3 ⟨rfl, b3⟩; have y0 := cell_later' z0 b3; have y1 := cell_later' z1 b3)
      go_ret
      exact ⟨rfl, bnext B2.out b3⟩
    · have hz' : ((n : Int) == 0) = false := by simp; omega
      rw [if_pos rfl] at T2
      rw [if_neg hz]
      go_wp2_with (go_at_call 10; refine T2.out.mono ?_; rintro e w3 ⟨rfl, b3⟩; have y0 := cell_later' z0 b3; have y1 := cell_later' z1 b3)
      go_ret
      exact ⟨rfl, bnext B2.out b3⟩
  · rw [if_neg (by decide)] at T2
    rcases (by omega : (n : Int) < x ∨ ¬ (n : Int) < x) with hx | hx
    · rw [if_pos hx] at T2
      rcases (by omega : n = 0 ∨ ¬ n = 0) with hz | hz
      · subst hz
        rw [if_pos rfl]
        go_wp2_with (go_at_call 10; refine T2.out.mono ?_; rintro e w3 ⟨rfl, b3⟩; have y0 := cell_later' z0 b3; have y1 := cell_later' z1 b3)
        go_ret
        exact ⟨rfl, bnext B2.out b3⟩
      · have hz' : ((n : Int) == 0) = false := by simp; omega
        rw [if_neg hz]
        go_wp2_with (go_at_call 10; refine T2.out.mono ?_; rintro e w3 ⟨rfl, b3⟩; have y0 := cell_later' z0 b3; have y1 := cell_later' z1 b3)
        go_ret
        exact ⟨rfl, bnext B2.out b3⟩
    · rw [if_neg hx] at T2
      rcases (by omega : n = 0 ∨ ¬ n = 0) with hz | hz
      · subst hz
        rw [if_pos rfl]
        go_wp2_with (go_at_call 10; refine T2.out.mono ?_; rintro e w3 ⟨rfl, b3⟩; have y0 := cell_later' z0 b3; have y1 := cell_later' z1 b3)
        go_ret
        exact ⟨rfl, bnext B2.out b3⟩
      · have hz' : ((n : Int) == 0) = false := by simp; omega
        rw [if_neg hz]
        go_wp2_with (go_at_call 10; refine T2.out.mono ?_; rintro e w3 ⟨rfl, b3⟩; have y0 := cell_later' z0 b3; have y1 := cell_later' z1 b3)
        go_ret
        exact ⟨rfl, bnext B2.out b3⟩
end Go.Proofs.Ytgnokbmhbeeblaa
