/- What the document's step says of an act. -/
import Derived.Test.YtgnokbmhbeeblaaScanSpec
import Derived.Deep.Cut
import Derived.BigQuiet
import Derived.Tactics
namespace Go.Proofs.Ytgnokbmhbeeblaa
open Go.ChangeShapes Go.WideShapes Go.ChangeAt Go.RowKit
set_option linter.unusedVariables false
set_option linter.unusedSimpArgs false
/-- How many bytes an act takes. -/
def takeZ (n : Nat) (f : Nat → Int) (d x : Int) : Int := if errZ n f d x = 0 then wantZ f d x else 0
theorem take_cut {n : Nat} {f : Nat → Int} {d x : Int} (h : (n : Int) < wantZ f d x) : takeZ n f d x = 0 ∧ errZ n f d x = 2 := by
  have e : errZ n f d x = 2 := by unfold errZ; split; rfl; first | rfl | rw [if_pos h]
  exact ⟨by unfold takeZ; rw [e]; rfl, e⟩
theorem take_ok {n : Nat} {f : Nat → Int} {d x : Int} (h : errZ n f d x = 0) : takeZ n f d x = wantZ f d x := by unfold takeZ; rw [if_pos h]
theorem take_bad {n : Nat} {f : Nat → Int} {d x : Int} (h : errZ n f d x ≠ 0) : takeZ n f d x = 0 := by unfold takeZ; rw [if_neg h]
set_option maxRecDepth 100000 in
set_option maxHeartbeats 2000000 in
theorem rstep_other (w : World) (a : Option Addr) (n c : Nat) (f : Nat → Int) (d x : Int) (hn : n ≤ 1000) (hx : 0 ≤ x ∧ x ≤ 65535) (h0 : ¬ d = 0) (h1 : ¬ d = 1) (h2 : ¬ d = 2) (h3 : ¬ d = 3) (h4 : ¬ d = 4) :
    Calls Try.prog 9 #[.slice a n c, .agg #[.int .i64 d, .int .i64 x]] w fun e w' => e = .returned (.tuple #[.int .i64 0, .int .i64 0]) ∧ Below w.heap.size w w' := by
  have q2 : (d == 2) = false := by simpa using h2
  have q4 : (d == 4) = false := by simpa using h4
  go_enter Try.func9, Try.ntmps9
  go_wp2
  go_quiet (fail)
  go_wp2
  exact bodyPost_ret (by simp [results, Try.results9, go_sem]) rfl ⟨rfl, below_drewN ((Below.refl _ _).alloc (Nat.le_refl _) _) _⟩
set_option maxRecDepth 100000 in
set_option maxHeartbeats 2000000 in
theorem rstep_0 (w : World) (a : Option Addr) (n c : Nat) (x : Int) (hn : n ≤ 1000) (hx : 0 ≤ x ∧ x ≤ 65535) (M : Int) (hM : 1 + x % 4 = M) :
    Calls Try.prog 9 #[.slice a n c, .agg #[.int .i64 0, .int .i64 x]] w fun e w' => e = .returned (.tuple #[.int .i64 (if (n : Int) < M then 0 else M), .int .i64 (if (n : Int) < M then 2 else 0)]) ∧ Below w.heap.size w w' := by
  obtain ⟨x0, x1⟩ := hx
  by_cases h : (n : Int) < M
  · rw [if_pos h, if_pos h]
    subst hM
    go_enter Try.func9, Try.ntmps9
    go_wp2
    exact bodyPost_ret (by simp [results, Try.results9, go_sem]) rfl ⟨rfl, (Below.refl _ _).alloc (Nat.le_refl _) _⟩
  · rw [if_neg h, if_neg h]
    subst hM
    go_enter Try.func9, Try.ntmps9
    go_wp2
    go_quiet (fail)
    go_wp2
    exact bodyPost_ret (by simp [results, Try.results9, go_sem]) rfl ⟨rfl, below_drewN ((Below.refl _ _).alloc (Nat.le_refl _) _) _⟩
set_option maxRecDepth 100000 in
set_option maxHeartbeats 2000000 in
theorem rstep_13 (w : World) (a : Option Addr) (n c : Nat) (d x : Int) (hn : n ≤ 1000) (hx : 0 ≤ x ∧ x ≤ 65535) (M : Int) (hM : d = 1 ∧ M = x ∨ d = 3 ∧ M = 8) :
    Calls Try.prog 9 #[.slice a n c, .agg #[.int .i64 d, .int .i64 x]] w fun e w' => e = .returned (.tuple #[.int .i64 (if (n : Int) < M then 0 else M), .int .i64 (if (n : Int) < M then 2 else 0)]) ∧ Below w.heap.size w w' := by
  obtain ⟨x0, x1⟩ := hx
  by_cases h : (n : Int) < M
  · rw [if_pos h, if_pos h]
    obtain ⟨rfl, rfl⟩ | ⟨rfl, rfl⟩ := hM
    all_goals
      go_enter Try.func9, Try.ntmps9
      go_wp2
      exact bodyPost_ret (by simp [results, Try.results9, go_sem]) rfl ⟨rfl, (Below.refl _ _).alloc (Nat.le_refl _) _⟩
  · rw [if_neg h, if_neg h]
    obtain ⟨rfl, rfl⟩ | ⟨rfl, rfl⟩ := hM
    all_goals
      go_enter Try.func9, Try.ntmps9
      go_wp2
      go_quiet (fail)
      go_wp2
      exact bodyPost_ret (by simp [results, Try.results9, go_sem]) rfl ⟨rfl, below_drewN ((Below.refl _ _).alloc (Nat.le_refl _) _) _⟩
set_option maxRecDepth 100000 in
set_option maxHeartbeats 2000000 in
theorem rstep_4 (w : World) (a : Option Addr) (n c : Nat) (f : Nat → Int) (x : Int) (hn : n ≤ 1000) (hb : Bytes w a n f) (hx : 0 ≤ x ∧ x ≤ 65535) :
    Calls Try.prog 9 #[.slice a n c, .agg #[.int .i64 4, .int .i64 x]] w fun e w' => e = .returned (.tuple #[.int .i64 (takeZ n f 4 x), .int .i64 (errZ n f 4 x)]) ∧ Below w.heap.size w w' := by
  obtain ⟨x0, x1⟩ := hx
  by_cases h : (n : Int) < 2
  · obtain ⟨e1, e2⟩ := take_cut (n := n) (f := f) (d := 4) (x := x) h
    rw [e1, e2]
    go_enter Try.func9, Try.ntmps9
    go_wp2
    exact bodyPost_ret (by simp [results, Try.results9, go_sem]) rfl ⟨rfl, (Below.refl _ _).alloc (Nat.le_refl _) _⟩
  · obtain ⟨hf, h0 | ⟨b, off, rfl, hc⟩⟩ := hb
    · omega
    have c0 := hc 0 (by omega)
    have c1 := hc 1 (by omega)
    rw [Nat.add_zero] at c0
    have k0 : (0 : Int) < n := by omega
    have k1 : (1 : Int) < n := by omega
    have k2 : 0 < n := by omega
    have k3 : 1 < n := by omega
    obtain ⟨p0, p1⟩ := hf 0
    obtain ⟨p2, p3⟩ := hf 1
    have hE : errZ n f 4 x = if x < f 0 + 256 * f 1 then 4 else 0 := by
      unfold errZ
      rw [if_neg (by omega), if_neg (by show ¬ (n : Int) < 2; omega)]
      by_cases hx : x < f 0 + 256 * f 1
      · rw [if_pos (Or.inr ⟨rfl, hx⟩), if_pos hx]
      · rw [if_neg (by omega), if_neg hx]
    clear hc
    by_cases hx : x < f 0 + 256 * f 1
    · have e2 : errZ n f 4 x = 4 := by rw [hE, if_pos hx]
      have e1 := take_bad (n := n) (f := f) (d := 4) (x := x) (by rw [e2]; decide)
      rw [e1, e2]
      clear hE e1 e2 hf
      generalize f 0 = y0 at *
      generalize f 1 = y1 at *
      go_enter Try.func9, Try.ntmps9
      go_upto_region 17 with fail
      have B0 : Hid (Below w.heap.size w (w.alloc (.cells #[.int .i64 4, .int .i64 x] 26))) := (Below.refl _ _).alloc (Nat.le_refl _) _
      have c0' := cell_later' c0 B0.out
      have c1' := cell_later' c1 B0.out
      have g0 : (w.alloc (.cells #[.int .i64 4, .int .i64 x] 26)).cell? ⟨w.heap.size, 0, none⟩ = some (.int .i64 4) := new_cell' w _ _ 0 _ rfl
      have g1 : (w.alloc (.cells #[.int .i64 4, .int .i64 x] 26)).cell? ⟨w.heap.size, 1, none⟩ = some (.int .i64 x) := new_cell' w _ _ 1 _ rfl
      generalize w.alloc (.cells #[.int .i64 4, .int .i64 x] 26) = w0 at B0 c0' c1' g0 g1 ⊢
      clear c0 c1
      go_quiet (fail)
      go_wp2
      exact bodyPost_ret (by simp [results, Try.results9, go_sem]) rfl ⟨rfl, below_drewN B0.out _⟩
    · have e2 : errZ n f 4 x = 0 := by rw [hE, if_neg hx]
      have e1 := take_ok e2
      rw [e1, e2]
      clear hE e1 e2 hf
      show Calls _ _ _ _ fun e w' => e = .returned (.tuple #[.int .i64 2, .int .i64 0]) ∧ _
      generalize f 0 = y0 at *
      generalize f 1 = y1 at *
      go_enter Try.func9, Try.ntmps9
      go_upto_region 17 with fail
      have B0 : Hid (Below w.heap.size w (w.alloc (.cells #[.int .i64 4, .int .i64 x] 26))) := (Below.refl _ _).alloc (Nat.le_refl _) _
      have c0' := cell_later' c0 B0.out
      have c1' := cell_later' c1 B0.out
      have g0 : (w.alloc (.cells #[.int .i64 4, .int .i64 x] 26)).cell? ⟨w.heap.size, 0, none⟩ = some (.int .i64 4) := new_cell' w _ _ 0 _ rfl
      have g1 : (w.alloc (.cells #[.int .i64 4, .int .i64 x] 26)).cell? ⟨w.heap.size, 1, none⟩ = some (.int .i64 x) := new_cell' w _ _ 1 _ rfl
      generalize w.alloc (.cells #[.int .i64 4, .int .i64 x] 26) = w0 at B0 c0' c1' g0 g1 ⊢
      clear c0 c1
      go_quiet (fail)
      go_wp2
      exact bodyPost_ret (by simp [results, Try.results9, go_sem]) rfl ⟨rfl, below_drewN B0.out _⟩
def fromA8 (p : Addr) (c : Nat) : Option Addr := if c = 1 then some p else some ⟨p.block, p.off + 1, none⟩
set_option maxRecDepth 100000 in
set_option maxHeartbeats 2000000 in
theorem rstep_2 (w : World) (a : Option Addr) (n c : Nat) (f : Nat → Int) (x : Int) (hn : n ≤ 1000) (hh : Head a n c) (hb : Bytes w a n f) (hx : 0 ≤ x ∧ x ≤ 65535) :
    Calls Try.prog 9 #[.slice a n c, .agg #[.int .i64 2, .int .i64 x]] w fun e w' => e = .returned (.tuple #[.int .i64 (takeZ n f 2 x), .int .i64 (errZ n f 2 x)]) ∧ Below w.heap.size w w' := by
  by_cases hz : n = 0
  · have e2 : errZ n f 2 x = 2 := by unfold errZ; rw [if_pos ⟨rfl, hz⟩]
    have e1 := take_bad (n := n) (f := f) (d := 2) (x := x) (by rw [e2]; decide)
    rw [e1, e2]
    subst hz
    clear hb
    go_enter Try.func9, Try.ntmps9
    go_wp2
    exact bodyPost_ret (by simp [results, Try.results9, go_sem]) rfl ⟨rfl, (Below.refl _ _).alloc (Nat.le_refl _) _⟩
  obtain ⟨hf, h0 | ⟨b, off, rfl, hc⟩⟩ := id hb
  · exact absurd h0 hz
  have c0 := hc 0 (by omega)
  rw [Nat.add_zero] at c0
  obtain ⟨p0, p1⟩ := hf 0
  obtain ⟨L, eL⟩ := Int.eq_ofNat_of_zero_le p0
  rw [eL] at c0 p1
  have k0 : (0 : Int) < n := by omega
  have k0' : 0 < n := by omega
  have kz : ((n : Int) == 0) = false := by simp; omega
  have hL : (L : Int) < 256 := p1
  by_cases h : (n : Int) < 1 + L
  · obtain ⟨e1, e2⟩ := take_cut (n := n) (f := f) (d := 2) (x := x) (by show (n : Int) < 1 + f 0; rw [eL]; exact h)
    rw [e1, e2]
    clear hc hf hb eL
    go_enter Try.func9, Try.ntmps9
    go_upto_region 10 with fail
    have B0 : Hid (Below w.heap.size w (w.alloc (.cells #[.int .i64 2, .int .i64 x] 26))) := (Below.refl _ _).alloc (Nat.le_refl _) _
    have c0' := cell_later' c0 B0.out
    generalize w.alloc (.cells #[.int .i64 2, .int .i64 x] 26) = w0 at B0 c0' ⊢
    clear c0
    go_wp2
    exact bodyPost_ret (by simp [results, Try.results9, go_sem]) rfl ⟨rfl, B0.out⟩
  · have kc : (1 : Int) + L ≤ c := by have := hh.1; omega
    have kL : L + 1 ≤ n := by omega
    have hM : wantZ f 2 x = 1 + L := by show 1 + f 0 = _; rw [eL]
    have hE : errZ n f 2 x = if nameF L (fun i => f (i + 1)) = false then 4 else 0 := by
      unfold errZ
      rw [if_neg (by omega), hM, if_neg h, eL, Int.toNat_natCast]
      by_cases hx : nameF L (fun i => f (i + 1)) = false
      · rw [if_pos (Or.inl ⟨rfl, hx⟩), if_pos hx]
      · rw [if_neg (by simp [hx]), if_neg hx]
    have hrow : ∀ W, Below w.heap.size w W → Bytes W (fromA8 ⟨b, off, none⟩ c) L (fun i => f (i + 1)) := fun W hW => by
      refine ⟨fun i => hf _, ?_⟩
      by_cases hl : L = 0
      · exact .inl hl
      · refine .inr ⟨b, off + 1, ?_, fun i hi => ?_⟩
        · unfold fromA8; rw [if_neg (by omega)]
        · have := cell_later' (hc (i + 1) (by omega)) hW
          rwa [show off + (i + 1) = off + 1 + i from by omega] at this
    have hcv : Hid (∀ W, Below w.heap.size w W → (convert 22 9 (.slice (fromA8 ⟨b, off, none⟩ c) L (c - 1))).run Try.prog W = .ok (.string (textF L fun i => f (i + 1))) W) := fun W hW => text_conv W _ L _ _ (hrow W hW)
    have NM : Hid (∀ W, Calls Try.prog 19 #[.string (textF L fun i => f (i + 1))] W fun e w' => e = .returned (.bool (nameF L fun i => f (i + 1))) ∧ w' = W) := fun W => by
      have h := rnamed_any (textF L fun i => f (i + 1)) W (by rw [textF_size]; omega)
      rwa [named_text L _ (fun i => hf _)] at h
    have hT : takeZ n f 2 x = if nameF L (fun i => f (i + 1)) = false then 0 else 1 + L := by
      unfold takeZ; rw [hE, hM]
      split <;> rfl
    rw [hE, hT]
    clear hE hT hM hrow hf hb eL hc
    have hsl : ∀ W, (Instr.slice 22 (.slice (some ⟨b, off, none⟩) n c) (some (.int .i64 1)) (some (.int .i64 (1 + (L : Int)))) none).run Try.prog W = .ok (.slice (fromA8 ⟨b, off, none⟩ c) L (c - 1)) W := fun W => by
      rw [run_slice_lh W 22 (some ⟨b, off, none⟩) n c (by kernel_rfl) .i64 .i64 1 (1 + (L : Int)) (by omega) (by omega) kc]
      have hs : (sizeOf (Try.prog.elem 22)).run Try.prog W = .ok 1 W := by go_simp
      rw [hs]
      have e : ((1 : Int) + L).toNat = 1 + L := by omega
      simp only [Result.andThen_ok, sliced, e]
      unfold fromA8
      rw [show (1 : Int).toNat = 1 from rfl, Nat.add_sub_cancel_left]
      congr 2
    generalize nameF L (fun i => f (i + 1)) = nb at NM ⊢
    generalize textF L (fun i => f (i + 1)) = tx at NM hcv ⊢
    cases nb
    · rw [if_pos rfl, if_pos rfl]
      go_enter Try.func9, Try.ntmps9
      go_upto_region 10 with fail
      have B0 : Hid (Below w.heap.size w (w.alloc (.cells #[.int .i64 2, .int .i64 x] 26))) := (Below.refl _ _).alloc (Nat.le_refl _) _
      have c0' := cell_later' c0 B0.out
      have g0 : (w.alloc (.cells #[.int .i64 2, .int .i64 x] 26)).cell? ⟨w.heap.size, 0, none⟩ = some (.int .i64 2) := new_cell' w _ _ 0 _ rfl
      generalize w.alloc (.cells #[.int .i64 2, .int .i64 x] 26) = w0 at B0 c0' g0 ⊢
      clear c0
      go_upto_region 17 with fail
      have hcv0 : ∀ k, (convert 22 9 (.slice (fromA8 ⟨b, off, none⟩ c) L (c - 1))).run Try.prog (w0.drewN k) = .ok (.string tx) (w0.drewN k) := fun k => hcv.out _ (below_drewN B0.out k)
      go_quiet ((go_at_call 19; exact Calls.quiet_of_same (NM.out _)))
      go_wp2
      exact bodyPost_ret (by simp [results, Try.results9, go_sem]) rfl ⟨rfl, below_drewN B0.out _⟩
    · rw [if_neg (by decide), if_neg (by decide)]
      go_enter Try.func9, Try.ntmps9
      go_upto_region 10 with fail
      have B0 : Hid (Below w.heap.size w (w.alloc (.cells #[.int .i64 2, .int .i64 x] 26))) := (Below.refl _ _).alloc (Nat.le_refl _) _
      have c0' := cell_later' c0 B0.out
      have g0 : (w.alloc (.cells #[.int .i64 2, .int .i64 x] 26)).cell? ⟨w.heap.size, 0, none⟩ = some (.int .i64 2) := new_cell' w _ _ 0 _ rfl
      generalize w.alloc (.cells #[.int .i64 2, .int .i64 x] 26) = w0 at B0 c0' g0 ⊢
      clear c0
      go_upto_region 17 with fail
      have hcv0 : ∀ k, (convert 22 9 (.slice (fromA8 ⟨b, off, none⟩ c) L (c - 1))).run Try.prog (w0.drewN k) = .ok (.string tx) (w0.drewN k) := fun k => hcv.out _ (below_drewN B0.out k)
      go_quiet ((go_at_call 19; exact Calls.quiet_of_same (NM.out _)))
      go_wp2
      exact bodyPost_ret (by simp [results, Try.results9, go_sem]) rfl ⟨rfl, below_drewN B0.out _⟩
theorem rstep_any (w : World) (a : Option Addr) (n c : Nat) (f : Nat → Int) (d x : Int) (hn : n ≤ 1000) (hh : Head a n c) (hb : Bytes w a n f) (hx : 0 ≤ x ∧ x ≤ 65535) :
    Calls Try.prog 9 #[.slice a n c, .agg #[.int .i64 d, .int .i64 x]] w fun e w' => e = .returned (.tuple #[.int .i64 (takeZ n f d x), .int .i64 (errZ n f d x)]) ∧ Below w.heap.size w w' := by
  have E1 : ∀ d, ¬ d = 2 → ¬ d = 4 → errZ n f d x = (if (n : Int) < wantZ f d x then 2 else 0) ∧ takeZ n f d x = (if (n : Int) < wantZ f d x then 0 else wantZ f d x) := fun d h2 h4 => by
    have e : errZ n f d x = (if (n : Int) < wantZ f d x then 2 else 0) := by
      unfold errZ
      rw [if_neg (by omega)]
      split
      · rfl
      · rw [if_neg (by omega)]
    refine ⟨e, ?_⟩
    unfold takeZ
    rw [e]
    by_cases h : (n : Int) < wantZ f d x
    · rw [if_pos h, if_pos h]; rfl
    · rw [if_neg h, if_neg h]; rfl
  by_cases h0 : d = 0
  · subst h0
    obtain ⟨e1, e2⟩ := E1 0 (by decide) (by decide)
    rw [e1, e2]
    exact rstep_0 w a n c x hn hx _ rfl
  by_cases h1 : d = 1
  · obtain ⟨e1, e2⟩ := E1 d (by omega) (by omega)
    rw [e1, e2]
    exact rstep_13 w a n c d x hn hx _ (.inl ⟨h1, by subst h1; rfl⟩)
  by_cases h2 : d = 2
  · subst h2; exact rstep_2 w a n c f x hn hh hb hx
  by_cases h3 : d = 3
  · obtain ⟨e1, e2⟩ := E1 d (by omega) (by omega)
    rw [e1, e2]
    exact rstep_13 w a n c d x hn hx _ (.inr ⟨h3, by subst h3; rfl⟩)
  by_cases h4 : d = 4
  · subst h4; exact rstep_4 w a n c f x hn hb hx
  obtain ⟨e1, e2⟩ := E1 d h2 h4
  have e : wantZ f d x = 0 := by unfold wantZ; rw [if_neg h0, if_neg h1, if_neg h2, if_neg h3, if_neg h4]
  rw [e1, e2, e, if_neg (by omega), if_neg (by omega)]
  exact rstep_other w a n c f d x hn hx h0 h1 h2 h3 h4
end Go.Proofs.Ytgnokbmhbeeblaa
