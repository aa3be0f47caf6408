/- What package check returns of data: one contract a function. -/
import Derived.Test.YtnejpldbokodaaaGreatDoorObjRt1
import Derived.Test.YtnejpldbokodaaaGreatDoorChkMath
namespace Go.Proofs.YtnejpldbokodaaaGreatDoor
open Go.ChangeShapes Go.WideShapes Go.ChangeAt Go.RowKit
set_option linter.unusedVariables false
set_option linter.unusedSimpArgs false
section
variable {A : Nat → Prop} {w : World} {u v : Value}
theorem need_any (c : Bool) (x : Int) (w : World) : Calls Tryz.prog 36 #[.bool c, .int .i64 x] w fun e w' => e = .returned (.int .i64 (if c = true then 0 else x)) ∧ w' = w := by
  cases c <;>
  · go_enter Tryz.func36, Tryz.ntmps36
    go_wp2
    go_ret
    exact ⟨rfl, rfl⟩
theorem bound_any (x : Int) (w : World) : Calls Tryz.prog 42 #[.int .i64 x] w fun e w' => Says e (bindOk x) ∧ w' = w := by
  by_cases h1 : x = 1
  · subst h1
    go_enter Tryz.func42, Tryz.ntmps42
    go_wp2
    go_ret
    exact ⟨⟨_, rfl, iff_yes (.inl rfl)⟩, rfl⟩
  by_cases h2 : x = 2
  · subst h2
    go_enter Tryz.func42, Tryz.ntmps42
    go_wp2
    go_ret
    exact ⟨⟨_, rfl, iff_yes (.inr (.inl rfl))⟩, rfl⟩
  by_cases h3 : x = 3
  · subst h3
    go_enter Tryz.func42, Tryz.ntmps42
    go_wp2
    go_ret
    exact ⟨⟨_, rfl, iff_yes (.inr (.inr rfl))⟩, rfl⟩
  have q1 : (x == 1) = false := by simpa using h1
  have q2 : (x == 2) = false := by simpa using h2
  have q3 : (x == 3) = false := by simpa using h3
  have E : Hid (¬ bindOk x) := fun h => by unfold bindOk at h; omega
  clear h1 h2 h3
  go_enter Tryz.func42, Tryz.ntmps42
  go_wp2
  go_ret
  exact ⟨⟨_, rfl, iff_no E.out⟩, rfl⟩
theorem aligned_any (x : Int) (w : World) : Calls Tryz.prog 38 #[.int .i64 x] w fun e w' => Says e (x = 1 ∨ x = 2 ∨ x = 4 ∨ x = 8 ∨ x = 16) ∧ w' = w := by
  by_cases h : x = 1 ∨ x = 2 ∨ x = 4 ∨ x = 8 ∨ x = 16
  · rcases h with rfl | rfl | rfl | rfl | rfl <;>
    · go_enter Tryz.func38, Tryz.ntmps38
      go_wp2
      go_ret
      exact ⟨⟨_, rfl, iff_yes (by decide)⟩, rfl⟩
  have q1 : (x == 1) = false := by simp; omega
  have q2 : (x == 2) = false := by simp; omega
  have q3 : (x == 4) = false := by simp; omega
  have q4 : (x == 8) = false := by simp; omega
  have q5 : (x == 16) = false := by simp; omega
  have E : Hid (¬ (x = 1 ∨ x = 2 ∨ x = 4 ∨ x = 8 ∨ x = 16)) := h
  clear h
  go_enter Tryz.func38, Tryz.ntmps38
  go_wp2
  go_ret
  exact ⟨⟨_, rfl, iff_no E.out⟩, rfl⟩
/-- The Bind of data, and what goes with it. -/
def datBind (d : DataM) : Prop := d.bind = 4 ∧ d.fixed = false ∧ d.bytes.length = 0 ∧ d.rels.length = 0 ∨ d.bind ≠ 4 ∧ bindOk d.bind
set_option maxRecDepth 100000 in
set_option maxHeartbeats 1000000 in
theorem bound_data {d : DataM} (h : DataV A w u d) : Calls Tryz.prog 37 #[u] w fun e w' => Says e (datBind d) ∧ Below w.heap.size w w' := by
  obtain ⟨vb, vr, rfl, hb, hr, hs⟩ := h
  obtain ⟨xn, xb, xa, xf, xz, lb, lr⟩ := d
  dsimp only at *
  obtain ⟨ba, bc, rfl, bm, -, -⟩ := LstA.open hb.1
  obtain ⟨ra, rc, rfl, rm, -, -⟩ := LstA.open hr
  obtain ⟨D, eD⟩ : ∃ D : DataM, D = ⟨xn, xb, xa, xf, xz, lb, lr⟩ := ⟨_, rfl⟩
  have HD : Hid (datBind D ↔ xb = 4 ∧ xf = false ∧ lb.length = 0 ∧ lr.length = 0 ∨ xb ≠ 4 ∧ bindOk xb) := by rw [eD]; exact Iff.rfl
  rw [← eD]
  clear eD
  generalize lb.length = n at *
  generalize lr.length = m at *
  unfold maxLen at bm rm
  have UP : Hid (Below w.heap.size w (w.alloc (.cells #[.string xn, .int .i64 xb, .int .i64 xa, .bool xf, .int .i64 xz, .slice ba n bc, .slice ra m rc] 48))) := keep_alloc8 (Below.refl _ _) _
  have X1 : Hid (XAt (w.alloc (.cells #[.string xn, .int .i64 xb, .int .i64 xa, .bool xf, .int .i64 xz, .slice ba n bc, .slice ra m rc] 48)) w.heap.size [.string xn, .int .i64 xb, .int .i64 xa, .bool xf, .int .i64 xz, .slice ba n bc, .slice ra m rc]) := XAt.new _ _ _
  clear hb hr hs
  go_enter Tryz.func37, Tryz.ntmps37
  go_upto_region 1 with fail
  generalize w.alloc (.cells #[.string xn, .int .i64 xb, .int .i64 xa, .bool xf, .int .i64 xz, .slice ba n bc, .slice ra m rc] 48) = w0 at UP X1 ⊢
  have y1 := X1.out.1 1 _ rfl
  have y3 := X1.out.1 3 _ rfl
  have y5 := X1.out.1 5 _ rfl
  have y6 := X1.out.1 6 _ rfl
  by_cases h4 : xb = 4
  · subst h4
    cases xf
    · by_cases hn : n = 0
      · subst hn
        by_cases hm : m = 0
        · subst hm
          go_wp2
          go_ret
          exact ⟨⟨_, rfl, iff_yes (HD.out.2 (.inl ⟨by first | rfl | trivial, by first | rfl | trivial, by first | rfl | trivial, by first | rfl | trivial⟩))⟩, UP.out⟩
        · have q : ((m : Int) == 0) = false := by simp; omega
          have E : Hid (¬ m = 0) := hm
          clear hm
          go_wp2
          go_ret
          exact ⟨⟨_, rfl, iff_no (fun h => by rcases HD.out.1 h with h | h; exact E.out h.2.2.2; exact h.1 rfl)⟩, UP.out⟩
      · have q : ((n : Int) == 0) = false := by simp; omega
        have E : Hid (¬ n = 0) := hn
        clear hn
        go_wp2
        go_ret
        exact ⟨⟨_, rfl, iff_no (fun h => by rcases HD.out.1 h with h | h; exact E.out h.2.2.1; exact h.1 rfl)⟩, UP.out⟩
    · go_wp2
      go_ret
      exact ⟨⟨_, rfl, iff_no (fun h => by rcases HD.out.1 h with h | h; exact absurd h.2.1 (by decide); exact h.1 rfl)⟩, UP.out⟩
  · have q : (xb == 4) = false := by simpa using h4
    have E : Hid (¬ xb = 4) := h4
    obtain ⟨c, I⟩ := bool_of (bindOk xb)
    have C : Hid (∀ W, Calls Tryz.prog 42 #[.int .i64 xb] W fun e w' => e = .returned (.bool c) ∧ w' = W) := fun W => (bound_any xb W).mono fun e w' h => ⟨says_is h.1 I.out, h.2⟩
    clear h4
    go_wp2_with (go_at_call 42; refine (C.out _).mono ?_; rintro e w1 ⟨rfl, rfl⟩)
    go_ret
    refine ⟨⟨_, rfl, ?_⟩, UP.out⟩
    rw [I.out, HD.out]
    exact ⟨fun h => .inr ⟨E.out, h⟩, fun h => by rcases h with h | h; exact absurd h.1 E.out; exact h.2⟩
/-- The Size of data. -/
def datSize (d : DataM) : Prop := 1 ≤ d.size ∧ d.size ≤ 4096 ∧ (d.bytes.length : Int) ≤ d.size
set_option maxRecDepth 100000 in
set_option maxHeartbeats 1000000 in
theorem sized_data {d : DataM} (h : DataV A w u d) : Calls Tryz.prog 39 #[u] w fun e w' => Says e (datSize d) ∧ Below w.heap.size w w' := by
  obtain ⟨vb, vr, rfl, hb, hr, hs⟩ := h
  obtain ⟨xn, xb, xa, xf, xz, lb, lr⟩ := d
  dsimp only at *
  obtain ⟨ba, bc, rfl, bm, -, -⟩ := LstA.open hb.1
  obtain ⟨D, eD⟩ : ∃ D : DataM, D = ⟨xn, xb, xa, xf, xz, lb, lr⟩ := ⟨_, rfl⟩
  have HD : Hid (datSize D ↔ 1 ≤ xz ∧ xz ≤ 4096 ∧ (lb.length : Int) ≤ xz) := by rw [eD]; exact Iff.rfl
  rw [← eD]
  clear eD
  generalize lb.length = n at *
  unfold maxLen at bm
  have UP : Hid (Below w.heap.size w (w.alloc (.cells #[.string xn, .int .i64 xb, .int .i64 xa, .bool xf, .int .i64 xz, .slice ba n bc, vr] 48))) := keep_alloc8 (Below.refl _ _) _
  have X1 : Hid (XAt (w.alloc (.cells #[.string xn, .int .i64 xb, .int .i64 xa, .bool xf, .int .i64 xz, .slice ba n bc, vr] 48)) w.heap.size [.string xn, .int .i64 xb, .int .i64 xa, .bool xf, .int .i64 xz, .slice ba n bc, vr]) := XAt.new _ _ _
  obtain ⟨ra, rc, rfl, -, -, -⟩ := LstA.open hr
  clear hb hr hs
  go_enter Tryz.func39, Tryz.ntmps39
  go_upto_region 1 with fail
  generalize w.alloc (.cells #[.string xn, .int .i64 xb, .int .i64 xa, .bool xf, .int .i64 xz, .slice ba n bc, .slice ra lr.length rc] 48) = w0 at UP X1 ⊢
  have y4 := X1.out.1 4 _ rfl
  have y5 := X1.out.1 5 _ rfl
  by_cases h1 : 1 ≤ xz
  · by_cases h2 : xz ≤ 4096
    · by_cases h3 : (n : Int) ≤ xz
      · have E : Hid (datSize D) := HD.out.2 ⟨h1, h2, h3⟩
        go_wp2
        go_ret
        exact ⟨⟨_, rfl, iff_yes E.out⟩, UP.out⟩
      · have q : decide ((n : Int) ≤ xz) = false := by simpa using h3
        have E : Hid (¬ datSize D) := fun h => h3 (HD.out.1 h).2.2
        go_wp2
        go_ret
        exact ⟨⟨_, rfl, iff_no E.out⟩, UP.out⟩
    · have q : decide (xz ≤ 4096) = false := by simpa using h2
      have E : Hid (¬ datSize D) := fun h => h2 (HD.out.1 h).2.1
      go_wp2
      go_ret
      exact ⟨⟨_, rfl, iff_no E.out⟩, UP.out⟩
  · have q : decide (1 ≤ xz) = false := by simpa using h1
    have E : Hid (¬ datSize D) := fun h => h1 (HD.out.1 h).1
    go_wp2
    go_ret
    exact ⟨⟨_, rfl, iff_no E.out⟩, UP.out⟩
set_option maxRecDepth 100000 in
set_option maxHeartbeats 2000000 in
theorem relocated_data {d : DataM} (h : DataV A w u d) (hz1 : 1 ≤ d.size) (hz2 : d.size ≤ 4096) : Calls Tryz.prog 40 #[u] w fun e w' => Says e (drelsUpto d.size d.rels d.rels.length) ∧ Below w.heap.size w w' := by
  obtain ⟨vb, vr, rfl, hb, hr, hs⟩ := h
  obtain ⟨xn, xb, xa, xf, xz, lb, lr⟩ := d
  dsimp only at *
  obtain ⟨ba, bc, rfl, -, -, -⟩ := LstA.open hb.1
  obtain ⟨ra, rc, rfl, rm, -, rx⟩ := LstA.open hr
  obtain ⟨n, en⟩ : ∃ n, lr.length = n := ⟨_, rfl⟩
  obtain ⟨m, em⟩ : ∃ m, lb.length = m := ⟨_, rfl⟩
  rw [en] at rm rx ⊢
  rw [em]
  have RX : Hid (∀ k, k < n → ∃ b off x, ra = some ⟨b, off, none⟩ ∧ A b ∧ lr[k]? = some x ∧ RelAt w b (off + k * 4) x) := rx
  have HN : Hid (lr.length = n) := en
  unfold maxLen at rm
  have UP : Hid (Below w.heap.size w (w.alloc (.cells #[.string xn, .int .i64 xb, .int .i64 xa, .bool xf, .int .i64 xz, .slice ba m bc, .slice ra n rc] 48))) := keep_alloc8 (Below.refl _ _) _
  have X1 : Hid (XAt (w.alloc (.cells #[.string xn, .int .i64 xb, .int .i64 xa, .bool xf, .int .i64 xz, .slice ba m bc, .slice ra n rc] 48)) w.heap.size [.string xn, .int .i64 xb, .int .i64 xa, .bool xf, .int .i64 xz, .slice ba m bc, .slice ra n rc]) := XAt.new _ _ _
  clear hb hr hs rx en em
  go_enter Tryz.func40, Tryz.ntmps40
  go_upto_region 1 with fail
  generalize w.alloc (.cells #[.string xn, .int .i64 xb, .int .i64 xa, .bool xf, .int .i64 xz, .slice ba m bc, .slice ra n rc] 48) = w0 at UP X1 ⊢
  have hX : Hid (w.heap.size < w0.heap.size) := X1.out.lt (by simp)
  have y6 := X1.out.1 6 _ rfl
  go_wp2
  clear y6
  go_loopw [9, 3] (fun i le wr => ∃ k : Nat, k ≤ n ∧ i = .int .i64 k ∧ le = .int .i64 (leastZ lr k) ∧ drelsUpto xz lr k ∧ Below w0.heap.size w0 wr) (fun i _ _ => n - (intOf i).toNat)
  case atStart => exact ⟨0, Nat.zero_le _, rfl, rfl, (fun i r hi => by omega), Below.refl _ _⟩
  case round =>
    obtain ⟨k, hk, rfl, rfl, hs, hbel⟩ := hrel
    have HB : Hid (Below w0.heap.size w0 wr) := hbel
    have HS : Hid (drelsUpto xz lr k) := hs
    have lb := least_bd hz1 hs (by rw [HN.out]; exact hk)
    clear hbel hs
    by_cases hlt : k < n
    · have hlt' : (k : Int) < n := by omega
      obtain ⟨q, off, ⟨xp, xk, xm, xd⟩, rfl, -, hx, x0, x1, x2, x3, -⟩ := RX.out k hlt
      dsimp only at x0 x1 x2 x3
      have HX : Hid (lr[k]? = some ⟨xp, xk, xm, xd⟩) := hx
      have SU : Hid (leastZ lr (k + 1) = xp + 4) := least_succ hx
      have NO : Hid (¬ drelOk xz (leastZ lr k) ⟨xp, xk, xm, xd⟩ → ¬ drelsUpto xz lr n) := fun h1 h2 => h1 (h2 k _ hlt hx)
      have YES : Hid (drelOk xz (leastZ lr k) ⟨xp, xk, xm, xd⟩ → drelsUpto xz lr (k + 1)) := fun h => drelsUpto_next HS.out hx h
      generalize leastZ lr k = le at lb NO YES ⊢
      replace x0 := cell_any x0 (bnext UP.out HB.out)
      replace x1 := cell_any x1 (bnext UP.out HB.out)
      replace x2 := cell_any x2 (bnext UP.out HB.out)
      replace x3 := cell_any x3 (bnext UP.out HB.out)
      have y4 := (X1.out.later hX.out HB.out).1 4 _ rfl
      clear hx
      go_upto_region 5 with fail
      have B2 : Hid (Below w0.heap.size w0 (wr.alloc (.cells #[.int .i64 xp, .int .i64 xk, .string xm, .int .i64 xd] 43))) := keep_alloc8 HB.out _
      have X3 : Hid (XAt (wr.alloc (.cells #[.int .i64 xp, .int .i64 xk, .string xm, .int .i64 xd] 43)) wr.heap.size [.int .i64 xp, .int .i64 xk, .string xm, .int .i64 xd]) := XAt.new _ _ _
      have y4' := cell_any y4 (keep_alloc8 (Below.refl _ wr) (.cells #[.int .i64 xp, .int .i64 xk, .string xm, .int .i64 xd] 43))
      generalize wr.alloc (.cells #[.int .i64 xp, .int .i64 xk, .string xm, .int .i64 xd] 43) = w2 at B2 X3 y4' ⊢
      clear x0 x1 x2 x3 y4
      have x0 := X3.out.1 0 _ rfl
      have x1 := X3.out.1 1 _ rfl
      by_cases h1 : xk = 4
      · subst h1
        by_cases h2 : xp < le
        · go_wp2
          go_ret
          exact ⟨⟨false, rfl, iff_no (NO.out fun e => by have := e.2.1; dsimp only at this; omega)⟩, bnext UP.out B2.out⟩
        replace h2 : le ≤ xp := by omega
        by_cases h3 : xz - 4 < xp
        · go_wp2
          go_ret
          exact ⟨⟨false, rfl, iff_no (NO.out fun e => by have := e.2.2; dsimp only at this; omega)⟩, bnext UP.out B2.out⟩
        replace h3 : xp ≤ xz - 4 := by omega
        go_wp2
        go_roundw
        case rel => exact ⟨k + 1, by omega, by go_num, by rw [SU.out], YES.out ⟨rfl, h2, h3⟩, B2.out⟩
        case measure => simp [intOf]; omega
      · have q1 : (xk != 4) = true := by simpa using h1
        have E : Hid (¬ xk = 4) := h1
        clear h1
        go_wp2
        go_ret
        exact ⟨⟨false, rfl, iff_no (NO.out fun e => E.out e.1)⟩, bnext UP.out B2.out⟩
    · obtain rfl : k = n := by omega
      go_wp2
      go_ret
      exact ⟨⟨true, rfl, iff_yes HS.out⟩, bnext UP.out HB.out⟩
theorem rdata_parts (d : DataM) : rdataOk d ↔ datBind d ∧ (d.align = 1 ∨ d.align = 2 ∨ d.align = 4 ∨ d.align = 8 ∨ d.align = 16) ∧ datSize d ∧ drelsUpto d.size d.rels d.rels.length := by
  unfold rdataOk datBind bindOk
  constructor
  · rintro ⟨h1, h2, h3, h4, h5⟩
    refine ⟨?_, h2, h3, h5⟩
    by_cases e : d.bind = 4
    · exact .inl ⟨e, h4 e⟩
    · exact .inr ⟨e, by omega⟩
  · rintro ⟨h1, h2, h3, h5⟩
    refine ⟨?_, h2, h3, ?_, h5⟩
    · rcases h1 with h1 | h1 <;> omega
    · intro e
      rcases h1 with h1 | h1
      · exact h1.2
      · exact absurd e h1.1
set_option maxRecDepth 100000 in
set_option maxHeartbeats 2000000 in
open Classical in
theorem data_any {d : DataM} (h : DataV A w u d) : Calls Tryz.prog 17 #[u] w fun e w' => e = .returned (.int .i64 (if rdataOk d then 0 else 4)) ∧ Below w.heap.size w w' := by
  have HV : Hid (DataV A w u d) := h
  obtain ⟨vb, vr, rfl, hb, hr, hs⟩ := h
  obtain ⟨ba, bc, rfl, -, -, -⟩ := LstA.open hb.1
  obtain ⟨ra, rc, rfl, -, -, -⟩ := LstA.open hr
  obtain ⟨c1, I1⟩ := bool_of (datBind d)
  obtain ⟨c2, I2⟩ := bool_of (d.align = 1 ∨ d.align = 2 ∨ d.align = 4 ∨ d.align = 8 ∨ d.align = 16)
  obtain ⟨c3, I3⟩ := bool_of (datSize d)
  obtain ⟨c4, I4⟩ := bool_of (drelsUpto d.size d.rels d.rels.length)
  have P : Hid (rdataOk d ↔ c1 = true ∧ c2 = true ∧ c3 = true ∧ c4 = true) := by unfold Hid; rw [rdata_parts, I1.out, I2.out, I3.out, I4.out]
  have C1 : Hid (∀ W, Below w.heap.size w W → Calls Tryz.prog 37 #[.agg #[.string d.name, .int .i64 d.bind, .int .i64 d.align, .bool d.fixed, .int .i64 d.size, .slice ba d.bytes.length bc, .slice ra d.rels.length rc]] W fun e w' => e = .returned (.bool c1) ∧ Below W.heap.size W w') := fun W hW => (bound_data (HV.out.keep (Stay.of_below hW))).mono fun e w' h => ⟨says_is h.1 I1.out, h.2⟩
  have C2 : Hid (∀ W, Calls Tryz.prog 38 #[.int .i64 d.align] W fun e w' => e = .returned (.bool c2) ∧ w' = W) := fun W => (aligned_any _ W).mono fun e w' h => ⟨says_is h.1 I2.out, h.2⟩
  have C3 : Hid (∀ W, Below w.heap.size w W → Calls Tryz.prog 39 #[.agg #[.string d.name, .int .i64 d.bind, .int .i64 d.align, .bool d.fixed, .int .i64 d.size, .slice ba d.bytes.length bc, .slice ra d.rels.length rc]] W fun e w' => e = .returned (.bool c3) ∧ Below W.heap.size W w') := fun W hW => (sized_data (HV.out.keep (Stay.of_below hW))).mono fun e w' h => ⟨says_is h.1 I3.out, h.2⟩
  have C4 : Hid (c3 = true → ∀ W, Below w.heap.size w W → Calls Tryz.prog 40 #[.agg #[.string d.name, .int .i64 d.bind, .int .i64 d.align, .bool d.fixed, .int .i64 d.size, .slice ba d.bytes.length bc, .slice ra d.rels.length rc]] W fun e w' => e = .returned (.bool c4) ∧ Below W.heap.size W w') := fun e3 W hW => (relocated_data (HV.out.keep (Stay.of_below hW)) (I3.out.1 e3).1 (I3.out.1 e3).2.1).mono fun e w' h => ⟨says_is h.1 I4.out, h.2⟩
  have HR : Hid ((if rdataOk d then (0 : Int) else 4) = if (c1 && c2 && c3 && c4) = true then 0 else 4) := by
    unfold Hid
    by_cases e : rdataOk d
    · rw [if_pos e, if_pos]; have := P.out.1 e; simp [this]
    · rw [if_neg e, if_neg]; intro h; simp at h; exact e (P.out.2 ⟨h.1.1.1, h.1.1.2, h.1.2, h.2⟩)
  rw [HR.out]
  have UP : Hid (Below w.heap.size w (w.alloc (.cells #[.string d.name, .int .i64 d.bind, .int .i64 d.align, .bool d.fixed, .int .i64 d.size, .slice ba d.bytes.length bc, .slice ra d.rels.length rc] 48))) := keep_alloc8 (Below.refl _ _) _
  have X1 : Hid (XAt (w.alloc (.cells #[.string d.name, .int .i64 d.bind, .int .i64 d.align, .bool d.fixed, .int .i64 d.size, .slice ba d.bytes.length bc, .slice ra d.rels.length rc] 48)) w.heap.size [.string d.name, .int .i64 d.bind, .int .i64 d.align, .bool d.fixed, .int .i64 d.size, .slice ba d.bytes.length bc, .slice ra d.rels.length rc]) := XAt.new _ _ _
  clear HR P I1 I2 I3 I4 HV hb hr hs
  generalize d.bytes.length = m at *
  generalize d.rels.length = n at *
  go_enter Tryz.func17, Tryz.ntmps17
  go_upto_region 1 with fail
  generalize w.alloc (.cells #[.string d.name, .int .i64 d.bind, .int .i64 d.align, .bool d.fixed, .int .i64 d.size, .slice ba m bc, .slice ra n rc] 48) = w0 at UP X1 ⊢
  have hX : Hid (w.heap.size < w0.heap.size) := X1.out.lt (by simp)
  have y0 := X1.out.1 0 _ rfl
  have y1 := X1.out.1 1 _ rfl
  have y2 := X1.out.1 2 _ rfl
  have y3 := X1.out.1 3 _ rfl
  have y4 := X1.out.1 4 _ rfl
  have y5 := X1.out.1 5 _ rfl
  have y6 := X1.out.1 6 _ rfl
  cases c1
  · go_wp2_with (first | (go_at_call 36; refine (need_any _ _ _).mono ?_; rintro e w9 ⟨rfl, hw9⟩; obtain rfl := hw9.symm) | (go_at_call 37; refine (C1.out _ UP.out).mono ?_; rintro e w1 ⟨rfl, b1⟩; have B1 := Hid.mk0 b1; have y0 := (X1.out.later hX.out B1.out).1 0 _ rfl; have y1 := (X1.out.later hX.out B1.out).1 1 _ rfl; have y2 := (X1.out.later hX.out B1.out).1 2 _ rfl; have y3 := (X1.out.later hX.out B1.out).1 3 _ rfl; have y4 := (X1.out.later hX.out B1.out).1 4 _ rfl; have y5 := (X1.out.later hX.out B1.out).1 5 _ rfl; have y6 := (X1.out.later hX.out B1.out).1 6 _ rfl; clear b1))
    go_ret
    exact ⟨rfl, bnext UP.out B1.out⟩
  cases c2
  · go_wp2_with (first | (go_at_call 36; refine (need_any _ _ _).mono ?_; rintro e w9 ⟨rfl, hw9⟩; obtain rfl := hw9.symm) | (go_at_call 38; refine (C2.out _).mono ?_; rintro e w2 ⟨rfl, rfl⟩) | (go_at_call 37; refine (C1.out _ UP.out).mono ?_; rintro e w1 ⟨rfl, b1⟩; have B1 := Hid.mk0 b1; have y0 := (X1.out.later hX.out B1.out).1 0 _ rfl; have y1 := (X1.out.later hX.out B1.out).1 1 _ rfl; have y2 := (X1.out.later hX.out B1.out).1 2 _ rfl; have y3 := (X1.out.later hX.out B1.out).1 3 _ rfl; have y4 := (X1.out.later hX.out B1.out).1 4 _ rfl; have y5 := (X1.out.later hX.out B1.out).1 5 _ rfl; have y6 := (X1.out.later hX.out B1.out).1 6 _ rfl; clear b1))
    go_ret
    exact ⟨rfl, bnext UP.out B1.out⟩
  cases c3
  · go_wp2_with (first | (go_at_call 36; refine (need_any _ _ _).mono ?_; rintro e w9 ⟨rfl, hw9⟩; obtain rfl := hw9.symm) | (go_at_call 39; refine (C3.out _ (bnext UP.out B1.out)).mono ?_; rintro e w3 ⟨rfl, b3⟩; have B3 := Hid.mk0 (bnext B1.out b3); have y0 := (X1.out.later hX.out B3.out).1 0 _ rfl; have y1 := (X1.out.later hX.out B3.out).1 1 _ rfl; have y2 := (X1.out.later hX.out B3.out).1 2 _ rfl; have y3 := (X1.out.later hX.out B3.out).1 3 _ rfl; have y4 := (X1.out.later hX.out B3.out).1 4 _ rfl; have y5 := (X1.out.later hX.out B3.out).1 5 _ rfl; have y6 := (X1.out.later hX.out B3.out).1 6 _ rfl; clear b3) | (go_at_call 38; refine (C2.out _).mono ?_; rintro e w2 ⟨rfl, rfl⟩) | (go_at_call 37; refine (C1.out _ UP.out).mono ?_; rintro e w1 ⟨rfl, b1⟩; have B1 := Hid.mk0 b1; have y0 := (X1.out.later hX.out B1.out).1 0 _ rfl; have y1 := (X1.out.later hX.out B1.out).1 1 _ rfl; have y2 := (X1.out.later hX.out B1.out).1 2 _ rfl; have y3 := (X1.out.later hX.out B1.out).1 3 _ rfl; have y4 := (X1.out.later hX.out B1.out).1 4 _ rfl; have y5 := (X1.out.later hX.out B1.out).1 5 _ rfl; have y6 := (X1.out.later hX.out B1.out).1 6 _ rfl; clear b1))
    go_ret
    exact ⟨rfl, bnext UP.out B3.out⟩
  cases c4
  all_goals
    go_wp2_with (first | (go_at_call 36; refine (need_any _ _ _).mono ?_; rintro e w9 ⟨rfl, hw9⟩; obtain rfl := hw9.symm) | (go_at_call 40; refine (C4.out (by first | rfl | trivial) _ (bnext UP.out B3.out)).mono ?_; rintro e w4 ⟨rfl, b4⟩; have B4 := Hid.mk0 (bnext B3.out b4); clear b4) | (go_at_call 39; refine (C3.out _ (bnext UP.out B1.out)).mono ?_; rintro e w3 ⟨rfl, b3⟩; have B3 := Hid.mk0 (bnext B1.out b3); have y0 := (X1.out.later hX.out B3.out).1 0 _ rfl; have y1 := (X1.out.later hX.out B3.out).1 1 _ rfl; have y2 := (X1.out.later hX.out B3.out).1 2 _ rfl; have y3 := (X1.out.later hX.out B3.out).1 3 _ rfl; have y4 := (X1.out.later hX.out B3.out).1 4 _ rfl; have y5 := (X1.out.later hX.out B3.out).1 5 _ rfl; have y6 := (X1.out.later hX.out B3.out).1 6 _ rfl; clear b3) | (go_at_call 38; refine (C2.out _).mono ?_; rintro e w2 ⟨rfl, rfl⟩) | (go_at_call 37; refine (C1.out _ UP.out).mono ?_; rintro e w1 ⟨rfl, b1⟩; have B1 := Hid.mk0 b1; have y0 := (X1.out.later hX.out B1.out).1 0 _ rfl; have y1 := (X1.out.later hX.out B1.out).1 1 _ rfl; have y2 := (X1.out.later hX.out B1.out).1 2 _ rfl; have y3 := (X1.out.later hX.out B1.out).1 3 _ rfl; have y4 := (X1.out.later hX.out B1.out).1 4 _ rfl; have y5 := (X1.out.later hX.out B1.out).1 5 _ rfl; have y6 := (X1.out.later hX.out B1.out).1 6 _ rfl; clear b1))
    go_ret
    exact ⟨rfl, bnext UP.out B4.out⟩
end
end Go.Proofs.YtnejpldbokodaaaGreatDoor
