/- The walk over what is put and taken. -/
import Derived.Test.YtgnokbmhbeeblaaScanTakesC
namespace Go.Proofs.Ytgnokbmhbeeblaa
open Go.ChangeShapes Go.WideShapes Go.ChangeAt Go.RowKit
set_option linter.unusedVariables false
set_option linter.unusedSimpArgs false
theorem takes_try (w : World) {k : Nat} {F f : Nat → Int} (s : ByteArray) (ba : Option Addr) (bc : Nat) (hh : Head ba (k + 8 + (1 + s.size) + 4) bc) (hb : Bytes w ba (k + 8 + (1 + s.size) + 4) F) (x : Int) (x0 : 0 ≤ x) (x1 : x < 4294967296) (b : Nat) (b1 : b < 18446744073709551616) (hL : Laid F x s b k f) (hs : namedB s = true) (hk : k ≤ 200)
    (mb nb tb xb kb : Nat) (hlt : mb < w.heap.size ∧ nb < w.heap.size ∧ tb < w.heap.size ∧ xb < w.heap.size ∧ kb < w.heap.size) (hne : mb ≠ kb ∧ nb ≠ kb ∧ tb ≠ kb ∧ xb ≠ kb) (ma : Option Addr) (mc : Nat) (hm : w.cell? ⟨mb, 0, none⟩ = some (.slice ma k mc)) (hmB : Bytes w ma k f) (hma : k ≠ 0 → ∀ x, ma = some x → x.block < w.heap.size)
    (hn : w.cell? ⟨nb, 0, none⟩ = some (.int .u32 x)) (ht : w.cell? ⟨tb, 0, none⟩ = some (.string s)) (hx : w.cell? ⟨xb, 0, none⟩ = some (.float .f64 b)) (r : Bool) (hr : w.cell? ⟨kb, 0, none⟩ = some (.bool r)) (hz : w.frozen? ⟨kb, 0, none⟩ = false) :
    Calls Try.prog 10 #[.slice ba (k + 8 + (1 + s.size) + 4) bc, .func (.func 26) #[] #[.pointer (some ⟨mb, 0, none⟩), .pointer (some ⟨nb, 0, none⟩), .pointer (some ⟨tb, 0, none⟩), .pointer (some ⟨xb, 0, none⟩), .pointer (some ⟨kb, 0, none⟩)]] w fun e w' => e = .returned (.int .i64 0) ∧ w'.cell? ⟨kb, 0, none⟩ = some (.bool true) ∧ w.grownBy w' (some kb) := by
  have hsn : 1 ≤ s.size ∧ s.size ≤ 32 := by
    have h := hs
    unfold namedB at h
    rw [decide_eq_true_eq] at h
    exact ⟨h.1, h.2.1⟩
  refine (try_st w ba _ bc F (by omega) hh hb 26 (enters Try.func26 (by kernel_rfl) rfl) #[.pointer (some ⟨mb, 0, none⟩), .pointer (some ⟨nb, 0, none⟩), .pointer (some ⟨tb, 0, none⟩), .pointer (some ⟨xb, 0, none⟩), .pointer (some ⟨kb, 0, none⟩)] (fun W er => er = 0 ∧ W.cell? ⟨kb, 0, none⟩ = some (.bool true) ∧ w.grownBy W (some kb)) ?_ ?_).mono ?_
  · rintro W W' er ⟨h1, h2, h3⟩ hB
    exact ⟨h1, cell_low h2 hB hlt.2.2.2.2, grown_then h3 hB⟩
  · intro W B v hW hB1 hB2 hS
    refine (takes_cl s hS hB2 x x0 x1 b b1 hL hs hk mb nb tb xb kb ⟨by omega, by omega, by omega, by omega, by omega⟩ hne ma mc (cell_low hm hW hlt.1) (hmB.later hW) (fun h0 x e => Nat.lt_of_lt_of_le (hma h0 x e) hB1)
      (cell_low hn hW hlt.2.1) (cell_low ht hW hlt.2.2.1) (cell_low hx hW hlt.2.2.2.1) r (cell_low hr hW hlt.2.2.2.2) (frozen_low hz hW hlt.2.2.2.2)).mono ?_
    rintro e W' ⟨rfl, ⟨g, hS'⟩, hL, hc⟩
    have hG : w.grownBy W' (some kb) := ⟨hL.os.trans hW.os, hL.tape.trans hW.tape, hL.output.trans hW.output, Nat.le_trans hW.size hL.size, fun k hk hne => (hL.block k (by omega) (fun e => hne (by rw [e]))).trans (hW.block k hk)⟩
    have hM : Mid w.heap.size B W W' := ⟨hL.os, hL.tape, hL.output, hL.size, fun k h1 h2 => hL.block k h2 (by omega)⟩
    exact ⟨.inl ⟨0, g, rfl, hS', rfl, hc, hG⟩, hM⟩
  · rintro e w' ⟨er, rfl, ⟨rfl, h2, h3⟩, -⟩
    exact ⟨rfl, h2, h3⟩
/-- The pieces, one behind another. -/
def laidF (x : Int) (s : ByteArray) (b : Nat) (f : Nat → Int) (j : Nat) : Int :=
  if j < 4 + (s.size + 1) + 8 then (if j < 4 + (s.size + 1) then (if j < 4 then x / 256 ^ j % 256 else (if j - 4 = 0 then (s.size : Int) else byteZ s (j - 4 - 1))) else (b : Int) / 256 ^ (j - (4 + (s.size + 1))) % 256) else f (j - (4 + (s.size + 1) + 8))
theorem laid_cells (x : Int) (s : ByteArray) (b : Nat) (k : Nat) (f : Nat → Int) : cellsK .u8 4 (fun i => x / 256 ^ i % 256) ++ cellsK .u8 (s.size + 1) (fun i => if i = 0 then (s.size : Int) else byteZ s (i - 1)) ++ cellsK .u8 8 (fun i => (b : Int) / 256 ^ i % 256) ++ cellsK .u8 k f = cellsK .u8 (k + 8 + (1 + s.size) + 4) (laidF x s b f) := by
  rw [cellsK_add, cellsK_add, cellsK_add, show k + 8 + (1 + s.size) + 4 = 4 + (s.size + 1) + 8 + k from by omega]
  rfl
theorem laid_is (x : Int) (s : ByteArray) (b : Nat) (k : Nat) (f : Nat → Int) : Laid (laidF x s b f) x s b k f := by
  refine ⟨fun i hi => ?_, ?_, fun i hi => ?_, fun i hi => ?_, fun i hi => ?_⟩
  · unfold laidF; rw [if_pos (by omega), if_pos (by omega), if_pos hi]
  · unfold laidF; rw [if_pos (by omega), if_pos (by omega), if_neg (by omega), if_pos (by omega)]
  · unfold laidF; rw [if_pos (by omega), if_pos (by omega), if_neg (by omega), if_neg (by omega), show i + 1 + 4 - 4 - 1 = i from by omega]
  · unfold laidF; rw [if_pos (by omega), if_neg (by omega), show i + (1 + s.size) + 4 - (4 + (s.size + 1)) = i from by omega]
  · unfold laidF; rw [if_neg (by omega), show i + 8 + (1 + s.size) + 4 - (4 + (s.size + 1) + 8) = i from by omega]
theorem laid_bd (x : Int) (s : ByteArray) (b : Nat) {f : Nat → Int} (hf : ∀ i, 0 ≤ f i ∧ f i < 256) (hs : s.size ≤ 32) (j : Nat) : 0 ≤ laidF x s b f j ∧ laidF x s b f j < 256 := by
  unfold laidF
  split
  · split
    · split
      · exact ⟨Int.emod_nonneg _ (by decide), Int.emod_lt_of_pos _ (by decide)⟩
      · split
        · omega
        · exact byteZ_bd _ _
    · exact ⟨Int.emod_nonneg _ (by decide), Int.emod_lt_of_pos _ (by decide)⟩
  · exact hf _
set_option maxRecDepth 100000 in
set_option maxHeartbeats 4000000 in
theorem takes_walk (w : World) (x : Int) (x0 : 0 ≤ x) (x1 : x < 4294967296) (s : ByteArray) (hs : s.size ≤ maxLen) (b : Nat) (b1 : b < 18446744073709551616) (ma : Option Addr) (k mc : Nat) (f : Nat → Int) (hh : Head ma k mc) (hmB : Bytes w ma k f) (hm : k ≤ 9223372036854775807) (hma : k ≠ 0 → ∀ x, ma = some x → x.block < w.heap.size) :
    Calls Try.prog 5 #[.int .u32 x, .string s, .int .u64 b, .slice ma k mc] w fun e w' => e = .returned (.bool true) ∧ Below w.heap.size w w' := by
  have AW : Hid (∀ W, Calls Try.prog 8 #[] W fun e w' => e = .returned (.bool true) ∧ Below W.heap.size W w') := awake_true
  have HMB : Hid (Bytes w ma k f) := hmB
  have HMA : Hid (k ≠ 0 → ∀ x, ma = some x → x.block < w.heap.size) := hma
  have hmk := makes
  unfold maxLen at hs
  have NB : Hid (∀ W, Calls Try.prog 19 #[.string s] W fun e w' => e = .returned (.bool (namedB s)) ∧ w' = W) := fun W => rnamed_any s W (by omega)
  clear hmB hma
  go_enter Try.func5, Try.ntmps5
  go_upto_region 1 with fail
  have a1 : Below w.heap.size w (w.alloc (.cells #[.int .u32 x] 40)) := (Below.refl _ w).alloc (Nat.le_refl _) _
  have a2 : Below w.heap.size w ((w.alloc (.cells #[.int .u32 x] 40)).alloc (.cells #[.string s] 9)) := a1.alloc (by simp) _
  have B0 : Hid (Below w.heap.size w (((w.alloc (.cells #[.int .u32 x] 40)).alloc (.cells #[.string s] 9)).alloc (.cells #[.slice ma k mc] 22))) := a2.alloc (by simp; omega) _
  have c0 : (((w.alloc (.cells #[.int .u32 x] 40)).alloc (.cells #[.string s] 9)).alloc (.cells #[.slice ma k mc] 22)).cell? ⟨w.heap.size, 0, none⟩ = some (.int .u32 x) := cell_later' (cell_later' (new_cell' w _ _ 0 _ rfl) ((Below.refl _ _).alloc (Nat.le_refl _) _)) ((Below.refl _ _).alloc (Nat.le_refl _) _)
  have c1 : (((w.alloc (.cells #[.int .u32 x] 40)).alloc (.cells #[.string s] 9)).alloc (.cells #[.slice ma k mc] 22)).cell? ⟨w.heap.size + 1, 0, none⟩ = some (.string s) := by
    have h := cell_later' (new_cell' (w.alloc (.cells #[.int .u32 x] 40)) #[.string s] 9 0 _ rfl) ((Below.refl _ _).alloc (Nat.le_refl _) (.cells #[.slice ma k mc] 22))
    rwa [show (w.alloc (.cells #[.int .u32 x] 40)).heap.size = w.heap.size + 1 from by simp] at h
  have c2 : (((w.alloc (.cells #[.int .u32 x] 40)).alloc (.cells #[.string s] 9)).alloc (.cells #[.slice ma k mc] 22)).cell? ⟨w.heap.size + 1 + 1, 0, none⟩ = some (.slice ma k mc) := by
    have h := new_cell' ((w.alloc (.cells #[.int .u32 x] 40)).alloc (.cells #[.string s] 9)) #[.slice ma k mc] 22 0 _ rfl
    rwa [show ((w.alloc (.cells #[.int .u32 x] 40)).alloc (.cells #[.string s] 9)).heap.size = w.heap.size + 1 + 1 from by simp] at h
  clear a1 a2
  generalize ((w.alloc (.cells #[.int .u32 x] 40)).alloc (.cells #[.string s] 9)).alloc (.cells #[.slice ma k mc] 22) = w0 at B0 c0 c1 c2 ⊢
  cases hb : namedB s
  · rw [hb] at NB
    clear hb
    go_wp2_with (first
      | (go_at_call 8; refine (AW.out w0).mono ?_; rintro e w1 ⟨rfl, b1⟩; have d1 := cell_later' c1 b1; have d2 := cell_later' c2 b1)
      | (go_at_call 19; refine (NB.out _).mono ?_; rintro e w3 ⟨rfl, rfl⟩)
      | (go_at_call 8; refine (AW.out _).mono ?_; rintro e w2 ⟨rfl, b2⟩))
    go_ret
    exact ⟨rfl, bnext B0.out (bnext b1 b2)⟩
  have HN : Hid (namedB s = true) := hb
  rw [hb] at NB
  clear hb
  rcases (by omega : 200 < (k : Int) ∨ (k : Int) ≤ 200) with h2 | h2
  · go_wp2_with (first
      | (go_at_call 8; refine (AW.out w0).mono ?_; rintro e w1 ⟨rfl, b1⟩; have d1 := cell_later' c1 b1; have d2 := cell_later' c2 b1)
      | (go_at_call 19; refine (NB.out _).mono ?_; rintro e w3 ⟨rfl, rfl⟩)
      | (go_at_call 8; refine (AW.out _).mono ?_; rintro e w2 ⟨rfl, b2⟩))
    go_ret
    exact ⟨rfl, bnext B0.out (bnext b1 b2)⟩
  have hstf : ∀ (a : Addr) (m : Mode) (w : World), (store a (.float .f64 b) m).run Try.prog w = stored Try.prog w a (.float .f64 b) m := fun a m w => run_store Try.prog w a _ m rfl
  have hunb : ∀ (w : World), (callFunc 24 #[.int .u64 (b : Int)]).run Try.prog w = .ok (.value (.float .f64 b)) w := fun w => by rw [unbits_run, Int.toNat_natCast]
  go_upto_region 4 with (first
      | (go_at_call 8; refine (AW.out w0).mono ?_; rintro e w1 ⟨rfl, b1⟩; have d0 := cell_later' c0 b1; have d1 := cell_later' c1 b1; have d2 := cell_later' c2 b1)
      | (go_at_call 19; refine (NB.out _).mono ?_; rintro e w3 ⟨rfl, rfl⟩))
  have hsn : 1 ≤ s.size ∧ s.size ≤ 32 := by
    have h := HN.out
    unfold namedB at h
    rw [decide_eq_true_eq] at h
    exact ⟨h.1, h.2.1⟩
  have hk2 : k ≤ 200 := by omega
  have B3 : Hid (Below w.heap.size w (w3.alloc (.cells #[.float .f64 b] 36))) := (bnext B0.out b1).alloc (bnext B0.out b1).size _
  have K4 : Hid ((fun W : World => W.cell? ⟨w.heap.size, 0, none⟩ = some (.int .u32 x) ∧ W.cell? ⟨w.heap.size + 1, 0, none⟩ = some (.string s) ∧ W.cell? ⟨w.heap.size + 1 + 1, 0, none⟩ = some (.slice ma k mc) ∧ W.cell? ⟨w3.heap.size, 0, none⟩ = some (.float .f64 b)) (w3.alloc (.cells #[.float .f64 b] 36))) :=
    ⟨cell_later' d0 ((Below.refl _ _).alloc (Nat.le_refl _) _), cell_later' d1 ((Below.refl _ _).alloc (Nat.le_refl _) _), cell_later' d2 ((Below.refl _ _).alloc (Nat.le_refl _) _), new_cell' w3 _ _ 0 _ rfl⟩
  obtain ⟨xb, exb⟩ : ∃ xb, w3.heap.size = xb := ⟨_, rfl⟩
  rw [exb] at K4 ⊢
  clear exb d0 d1 d2 b1 c0 c1 c2 B0 NB
  generalize w3.alloc (.cells #[.float .f64 b] 36) = w4 at B3 K4 ⊢
  clear w3 w0
  have HK : Hid (∀ W, Below w4.heap.size w4 W → (fun W : World => W.cell? ⟨w.heap.size, 0, none⟩ = some (.int .u32 x) ∧ W.cell? ⟨w.heap.size + 1, 0, none⟩ = some (.string s) ∧ W.cell? ⟨w.heap.size + 1 + 1, 0, none⟩ = some (.slice ma k mc) ∧ W.cell? ⟨xb, 0, none⟩ = some (.float .f64 b)) W) := fun W hW =>
    ⟨cell_later' K4.out.1 hW, cell_later' K4.out.2.1 hW, cell_later' K4.out.2.2.1 hW, cell_later' K4.out.2.2.2 hW⟩
  have PU : Hid (∀ W, Calls Try.prog 21 #[.int .i64 x, .int .i64 4] W fun e w' => ∃ a c, e = .returned (.slice a 4 c) ∧ w'.ownsRow W.heap.size 5 1 (.slice a 4 c) 4 (cellsK .u8 4 fun i => x / 256 ^ i % 256) ∧ Below W.heap.size W w') := fun W => put_own x 4 W x0 x1 (by omega) (by omega)
  have PN : Hid (∀ W, Calls Try.prog 23 #[.string s] W fun e w' => ∃ a c, e = .returned (.slice a (s.size + 1) c) ∧ w'.ownsRow W.heap.size 5 1 (.slice a (s.size + 1) c) (s.size + 1) (cellsK .u8 (s.size + 1) fun i => if i = 0 then (s.size : Int) else byteZ s (i - 1)) ∧ Below W.heap.size W w') := fun W => putname_own s W HN.out
  have PF : Hid (∀ W, Calls Try.prog 25 #[.float .f64 b] W fun e w' => ∃ a c, e = .returned (.slice a 8 c) ∧ w'.ownsRow W.heap.size 5 1 (.slice a 8 c) 8 (cellsK .u8 8 fun i => (b : Int) / 256 ^ i % 256) ∧ Below W.heap.size W w') := fun W => putfloat_own b W b1
  have FB : Hid (∀ i, 0 ≤ x / 256 ^ i % 256 ∧ x / 256 ^ i % 256 < 256) := fun i => ⟨Int.emod_nonneg _ (by decide), Int.emod_lt_of_pos _ (by decide)⟩
  have FF : Hid (∀ i, 0 ≤ (b : Int) / 256 ^ i % 256 ∧ (b : Int) / 256 ^ i % 256 < 256) := fun i => ⟨Int.emod_nonneg _ (by decide), Int.emod_lt_of_pos _ (by decide)⟩
  have FN : Hid (∀ i : Nat, 0 ≤ (if i = 0 then (s.size : Int) else byteZ s (i - 1)) ∧ (if i = 0 then (s.size : Int) else byteZ s (i - 1)) < 256) := fun i => by
    split
    · omega
    · exact byteZ_bd _ _
  have hwx := wrap_small (y := x) x0 x1
  obtain ⟨i0, hi0, hz0, hz1, hz2⟩ := info_parts slB
  go_region_held3 (fun W => W.cell? ⟨w.heap.size, 0, none⟩ = some (.int .u32 x) ∧ W.cell? ⟨w.heap.size + 1, 0, none⟩ = some (.string s) ∧ W.cell? ⟨w.heap.size + 1 + 1, 0, none⟩ = some (.slice ma k mc) ∧ W.cell? ⟨xb, 0, none⟩ = some (.float .f64 b))
    (first
    | exact HK.out _ hB11
    | exact HK.out _ hB10
    | exact HK.out _ hB9
    | exact HK.out _ hB8
    | exact HK.out _ hB7
    | exact HK.out _ hB6
    | exact HK.out _ (by repeat' (first | exact hB5 | exact Below.refl _ _ | refine keep_drew8 ?_ | refine keep_alloc8 ?_ _)))
    (first
    | (go_at_call 21; refine (PU.out _).mono ?_; rintro e w5 ⟨a5, c5, rfl, o5, b5⟩; have hB5 : Below w4.heap.size w4 w5 := bnext (by repeat' (first | exact Below.refl _ _ | refine keep_drew8 ?_ | refine keep_alloc8 ?_ _)) b5)
    | (go_at_call 23; refine (PN.out _).mono ?_; rintro e w7 ⟨a7, c7, rfl, o7, b7⟩; have hB7 : Below w4.heap.size w4 w7 := bnext hB6 b7; have q6 := own_below o6 b7)
    | (go_at_call 25; refine (PF.out _).mono ?_; rintro e w9 ⟨a9, c9, rfl, o9, b9⟩; have hB9 : Below w4.heap.size w4 w9 := bnext hB8 b9; have q8 := own_below o8 b9)
    | (refine step_append_empty _ (by rfl) (.tmp 28) (.tmp 31) 22 (by rfl) w4.heap.size 5 i0 _ 1 1 Try.underlying22 hi0 hz0 hz1 hz2 rfl (by decide) (w4.heap.size) (by rfl) (own_below (World.ownsRow_made (base := w4.heap.size) (size := 1) w4.drew #[] 0 (Nat.le_refl _) (Nat.zero_le _) rfl) b5) a5 4 c5 (cellsK .u8 4 _) (by rfl) (by rw [cellsK_len, Nat.mul_one]) (head_nil (own_bytes o5 FB.out).1) (bytes_cells (own_bytes o5 FB.out).2) (cellsK_one _ _ _) (by unfold maxLen; omega) (by omega) hB5.size ?_; intro a6 c6 w6 o6 g6; have hB6 : Below w4.heap.size w4 w6 := Below.grown hB5 g6 hB5.size (fun q hq => by have h := Option.some.inj hq; omega))
    | (refine step_append_empty _ (by rfl) (.tmp 28) (.tmp 31) 22 (by rfl) w4.heap.size 5 i0 _ 1 1 Try.underlying22 hi0 hz0 hz1 hz2 rfl (by decide) (w5.heap.size) (by rfl) (World.ownsRow_made (size := 1) w5 #[] 0 hB5.size (Nat.zero_le _) rfl) a5 4 c5 (cellsK .u8 4 _) (by rfl) (by rw [cellsK_len, Nat.mul_one]) (head_nil (own_bytes o5 FB.out).1) (bytes_cells ((own_bytes o5 FB.out).2.later ((Below.refl _ _).alloc (Nat.le_refl _) _))) (cellsK_one _ _ _) (by unfold maxLen; omega) (by omega) (keep_alloc8 hB5 _).size ?_; intro a6 c6 w6 o6 g6; have hB6 : Below w4.heap.size w4 w6 := Below.grown (keep_alloc8 hB5 _) g6 (keep_alloc8 hB5 _).size (fun q hq => by have h := Option.some.inj hq; have := hB5.size; omega))
    | (refine step_append_all _ (by rfl) (.tmp 32) (.tmp 34) 22 (by rfl) w4.heap.size 5 i0 _ 1 1 Try.underlying22 hi0 hz0 hz1 hz2 rfl (by decide) (.slice a6 4 c6) 4 _ (by rfl) q6 a7 (s.size + 1) c7 (cellsK .u8 (s.size + 1) _) (by rfl) (by rw [cellsK_len, Nat.mul_one]) (head_nil (own_bytes o7 FN.out).1) (bytes_cells (own_bytes o7 FN.out).2) (cellsK_one _ _ _) (by unfold maxLen; omega) (by omega) hB7.size ?_; intro a8 c8 w8 o8 g8; have hB8 : Below w4.heap.size w4 w8 := Below.grown hB7 g8 hB7.size (fun q hq => (q6.lt q hq).1))
    | (refine step_append_all _ (by rfl) (.tmp 35) (.tmp 37) 22 (by rfl) w4.heap.size 5 i0 _ 1 1 Try.underlying22 hi0 hz0 hz1 hz2 rfl (by decide) (.slice a8 (4 + (s.size + 1)) c8) (4 + (s.size + 1)) _ (by rfl) q8 a9 8 c9 (cellsK .u8 8 _) (by rfl) (by rw [cellsK_len, Nat.mul_one]) (head_nil (own_bytes o9 FF.out).1) (bytes_cells (own_bytes o9 FF.out).2) (cellsK_one _ _ _) (by unfold maxLen; omega) (by omega) hB9.size ?_; intro a10 c10 w10 o10 g10; have hB10 : Below w4.heap.size w4 w10 := Below.grown hB9 g10 hB9.size (fun q hq => (q8.lt q hq).1))
    | (refine step_append_all _ (by rfl) (.tmp 38) (.tmp 39) 22 (by rfl) w4.heap.size 5 i0 _ 1 1 Try.underlying22 hi0 hz0 hz1 hz2 rfl (by decide) (.slice a10 (4 + (s.size + 1) + 8) c10) (4 + (s.size + 1) + 8) _ (by rfl) o10 ma k mc (cellsK .u8 k f) (by rfl) (by rw [cellsK_len, Nat.mul_one]) (head_nil hh) (bytes_cells ((HMB.out.later B3.out).later hB10)) (cellsK_one _ _ _) (by unfold maxLen; omega) (by omega) hB10.size ?_; intro a11 c11 w11 o11 g11; have hB11 : Below w4.heap.size w4 w11 := Below.grown hB10 g11 hB10.size (fun q hq => (o10.lt q hq).1)))
  all_goals
    have eN : 4 + (s.size + 1) + 8 + k = k + 8 + (1 + s.size) + 4 := by omega
    rw [laid_cells, eN] at o11
    rw [eN]
    have O11 : Hid (Head a11 (k + 8 + (1 + s.size) + 4) c11 ∧ Bytes w11 a11 (k + 8 + (1 + s.size) + 4) (laidF x s b f)) := own_bytes o11 (laid_bd x s b HMB.out.1 hsn.2)
    have K11 : Hid ((fun W : World => W.cell? ⟨w.heap.size, 0, none⟩ = some (.int .u32 x) ∧ W.cell? ⟨w.heap.size + 1, 0, none⟩ = some (.string s) ∧ W.cell? ⟨w.heap.size + 1 + 1, 0, none⟩ = some (.slice ma k mc) ∧ W.cell? ⟨xb, 0, none⟩ = some (.float .f64 b)) w11) := HK.out _ hB11
    have BW : Hid (Below w.heap.size w w11) := bnext B3.out hB11
    clear o11 g11 hB11 o10 g10 hB10 o9 b9 hB9 q8 o8 g8 hB8 o7 b7 hB7 q6 o6 g6 hB6 o5 b5 hB5 PU PN PF HK K4 B3
    go_upto_region 6 with fail
    have TR : Hid (Calls Try.prog 10 #[.slice a11 (k + 8 + (1 + s.size) + 4) c11, .func (.func 26) #[] #[.pointer (some ⟨w.heap.size + 1 + 1, 0, none⟩), .pointer (some ⟨w.heap.size, 0, none⟩), .pointer (some ⟨w.heap.size + 1, 0, none⟩), .pointer (some ⟨xb, 0, none⟩), .pointer (some ⟨w11.heap.size, 0, none⟩)]] (w11.alloc (.cells #[.bool false] 4)) fun e w' => e = .returned (.int .i64 0) ∧ w'.cell? ⟨w11.heap.size, 0, none⟩ = some (.bool true) ∧ (w11.alloc (.cells #[.bool false] 4)).grownBy w' (some w11.heap.size)) := by
      obtain ⟨k0, k1, k2, k3⟩ := K11.out
      have l0 := World.block_lt_of_cell? w11 _ k0
      have l1 := World.block_lt_of_cell? w11 _ k1
      have l2 := World.block_lt_of_cell? w11 _ k2
      have l3 := World.block_lt_of_cell? w11 _ k3
      dsimp only at l0 l1 l2 l3
      have up : Below w11.heap.size w11 (w11.alloc (.cells #[.bool false] 4)) := (Below.refl _ _).alloc (Nat.le_refl _) _
      have hsz : (w11.alloc (.cells #[.bool false] 4)).heap.size = w11.heap.size + 1 := by simp
      exact takes_try _ s a11 c11 O11.out.1 (O11.out.2.later up) x x0 x1 b b1 (laid_is x s b k f) HN.out hk2 _ _ _ _ _ ⟨by omega, by omega, by omega, by omega, by omega⟩ ⟨by omega, by omega, by omega, by omega⟩ ma mc (cell_later' k2 up) ((HMB.out.later BW.out).later up) (fun h0 y e => by have := HMA.out h0 y e; have := BW.out.size; omega)
        (cell_later' k0 up) (cell_later' k1 up) (cell_later' k3 up) false (new_cell' w11 _ _ 0 _ rfl) (by simp [go_sem])
    have BX : Hid (Below w.heap.size w (w11.alloc (.cells #[.bool false] 4))) := keep_alloc8 BW.out _
    have hBX : Hid (w.heap.size ≤ w11.heap.size) := BW.out.size
    obtain ⟨kb, ekb⟩ : ∃ kb, w11.heap.size = kb := ⟨_, rfl⟩
    rw [ekb] at TR hBX ⊢
    clear ekb O11 K11 BW
    generalize w11.alloc (.cells #[.bool false] 4) = w12 at TR BX ⊢
    go_wp2_with (go_at_call 10; refine TR.out.mono ?_; rintro e w13 ⟨rfl, c13, g13⟩)
    go_ret
    exact ⟨rfl, Below.grown BX.out g13 BX.out.size (fun q hq => by have h := Option.some.inj hq; have := hBX.out; omega)⟩
end Go.Proofs.Ytgnokbmhbeeblaa
