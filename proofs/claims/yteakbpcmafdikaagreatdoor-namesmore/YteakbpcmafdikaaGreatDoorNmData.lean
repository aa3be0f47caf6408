/- What package check returns of data: one contract a function. What code.All returns of a function's words, and what is asked of its instructions: one contract a function. -/
import Derived.Test.YteakbpcmafdikaaGreatDoorObjRt1
import Derived.Test.YteakbpcmafdikaaGreatDoorNmMath
import Derived.Test.YteakbpcmafdikaaGreatDoorCodePG
import Derived.Deep.RegionHeld3
import Derived.OwnWalk
namespace Go.Proofs.YteakbpcmafdikaaGreatDoor
open Go.ChangeShapes Go.WideShapes Go.ChangeAt Go.RowKit
set_option linter.unusedVariables false
set_option linter.unusedSimpArgs false
section
variable {A : Nat → Prop} {w : World} {u v : Value}
theorem need_any (c : Bool) (x : Int) (w : World) : Calls Tryz.prog 68 #[.bool c, .int .i64 x] w fun e w' => e = .returned (.int .i64 (if c = true then 0 else x)) ∧ w' = w := by
  cases c <;>
  · go_enter Tryz.func68, Tryz.ntmps68
    go_wp2
    go_ret
    exact ⟨rfl, rfl⟩
theorem bound_any (x : Int) (w : World) : Calls Tryz.prog 110 #[.int .i64 x] w fun e w' => Says e (bindOk x) ∧ w' = w := by
  by_cases h1 : x = 1
  · subst h1
    go_enter Tryz.func110, Tryz.ntmps110
    go_wp2
    go_ret
    exact ⟨⟨_, rfl, iff_yes (.inl rfl)⟩, rfl⟩
  by_cases h2 : x = 2
  · subst h2
    go_enter Tryz.func110, Tryz.ntmps110
    go_wp2
    go_ret
    exact ⟨⟨_, rfl, iff_yes (.inr (.inl rfl))⟩, rfl⟩
  by_cases h3 : x = 3
  · subst h3
    go_enter Tryz.func110, Tryz.ntmps110
    go_wp2
    go_ret
    exact ⟨⟨_, rfl, iff_yes (.inr (.inr rfl))⟩, rfl⟩
  have q1 : (x == 1) = false := by simpa using h1
  have q2 : (x == 2) = false := by simpa using h2
  have q3 : (x == 3) = false := by simpa using h3
  have E : Hid (¬ bindOk x) := fun h => by unfold bindOk at h; omega
  clear h1 h2 h3
  go_enter Tryz.func110, Tryz.ntmps110
  go_wp2
  go_ret
  exact ⟨⟨_, rfl, iff_no E.out⟩, rfl⟩
theorem aligned_any (x : Int) (w : World) : Calls Tryz.prog 86 #[.int .i64 x] w fun e w' => Says e (x = 1 ∨ x = 2 ∨ x = 4 ∨ x = 8 ∨ x = 16) ∧ w' = w := by
  by_cases h : x = 1 ∨ x = 2 ∨ x = 4 ∨ x = 8 ∨ x = 16
  · rcases h with rfl | rfl | rfl | rfl | rfl <;>
    · go_enter Tryz.func86, Tryz.ntmps86
      go_wp2
      go_ret
      exact ⟨⟨_, rfl, iff_yes (by decide)⟩, rfl⟩
  have q1 : (x == 1) = false := by simp; omega
  have q2 : (x == 2) = false := by simp; omega
  have q3 : (x == 4) = false := by simp; omega
  have q4 : (x == 8) = false := by simp; omega
  have q5 : (x == 16) = false := by simp; omega
  have E : Hid (¬ (x = 1 ∨ x = 2 ∨ x = 4 ∨ x = 8 ∨ x = 16)) := h
  clear h
  go_enter Tryz.func86, Tryz.ntmps86
  go_wp2
  go_ret
  exact ⟨⟨_, rfl, iff_no E.out⟩, rfl⟩
/-- The Bind of data, and what goes with it. -/
def datBind (d : DataM) : Prop := d.bind = 4 ∧ d.fixed = false ∧ d.bytes.length = 0 ∧ d.rels.length = 0 ∨ d.bind ≠ 4 ∧ bindOk d.bind
set_option maxRecDepth 100000 in
set_option maxHeartbeats 1000000 in
theorem bound_data {d : DataM} (h : DataV A w u d) : Calls Tryz.prog 85 #[u] w fun e w' => Says e (datBind d) ∧ Below w.heap.size w w' := by
  obtain ⟨vb, vr, rfl, hb, hr, hs⟩ := h
  obtain ⟨xn, xb, xa, xf, xz, lb, lr⟩ := d
  dsimp only at *
  obtain ⟨ba, bc, rfl, bm, -, -⟩ := LstA.open hb.1
  obtain ⟨ra, rc, rfl, rm, -, -⟩ := LstA.open hr
  obtain ⟨D, eD⟩ : ∃ D : DataM, D = ⟨xn, xb, xa, xf, xz, lb, lr⟩ := ⟨_, rfl⟩
  have HD : Hid (datBind D ↔ xb = 4 ∧ xf = false ∧ lb.length = 0 ∧ lr.length = 0 ∨ xb ≠ 4 ∧ bindOk xb) := by rw [eD]; exact Iff.rfl
  rw [← eD]
  clear eD
  generalize lb.length = n at *
  generalize lr.length = m at *
  unfold maxLen at bm rm
  have UP : Hid (Below w.heap.size w (w.alloc (.cells #[.string xn, .int .i64 xb, .int .i64 xa, .bool xf, .int .i64 xz, .slice ba n bc, .slice ra m rc] 52))) := keep_alloc8 (Below.refl _ _) _
  have X1 : Hid (XAt (w.alloc (.cells #[.string xn, .int .i64 xb, .int .i64 xa, .bool xf, .int .i64 xz, .slice ba n bc, .slice ra m rc] 52)) w.heap.size [.string xn, .int .i64 xb, .int .i64 xa, .bool xf, .int .i64 xz, .slice ba n bc, .slice ra m rc]) := XAt.new _ _ _
  clear hb hr hs
  go_enter Tryz.func85, Tryz.ntmps85
  go_upto_region 1 with fail
  generalize w.alloc (.cells #[.string xn, .int .i64 xb, .int .i64 xa, .bool xf, .int .i64 xz, .slice ba n bc, .slice ra m rc] 52) = w0 at UP X1 ⊢
  have y1 := X1.out.1 1 _ rfl
  have y3 := X1.out.1 3 _ rfl
  have y5 := X1.out.1 5 _ rfl
  have y6 := X1.out.1 6 _ rfl
  by_cases h4 : xb = 4
  · subst h4
    cases xf
    · by_cases hn : n = 0
      · subst hn
        by_cases hm : m = 0
        · subst hm
          go_wp2
          go_ret
          exact ⟨⟨_, rfl, iff_yes (HD.out.2 (.inl ⟨by first | rfl | trivial, by first | rfl | trivial, by first | rfl | trivial, by first | rfl | trivial⟩))⟩, UP.out⟩
        · have q : ((m : Int) == 0) = false := by simp; omega
          have E : Hid (¬ m = 0) := hm
          clear hm
          go_wp2
          go_ret
          exact ⟨⟨_, rfl, iff_no (fun h => by rcases HD.out.1 h with h | h; exact E.out h.2.2.2; exact h.1 rfl)⟩, UP.out⟩
      · have q : ((n : Int) == 0) = false := by simp; omega
        have E : Hid (¬ n = 0) := hn
        clear hn
        go_wp2
        go_ret
        exact ⟨⟨_, rfl, iff_no (fun h => by rcases HD.out.1 h with h | h; exact E.out h.2.2.1; exact h.1 rfl)⟩, UP.out⟩
    · go_wp2
      go_ret
      exact ⟨⟨_, rfl, iff_no (fun h => by rcases HD.out.1 h with h | h; exact absurd h.2.1 (by decide); exact h.1 rfl)⟩, UP.out⟩
  · have q : (xb == 4) = false := by simpa using h4
    have E : Hid (¬ xb = 4) := h4
    obtain ⟨c, I⟩ := bool_of (bindOk xb)
    have C : Hid (∀ W, Calls Tryz.prog 110 #[.int .i64 xb] W fun e w' => e = .returned (.bool c) ∧ w' = W) := fun W => (bound_any xb W).mono fun e w' h => ⟨says_is h.1 I.out, h.2⟩
    clear h4
    go_wp2_with (go_at_call 110; refine (C.out _).mono ?_; rintro e w1 ⟨rfl, rfl⟩)
    go_ret
    refine ⟨⟨_, rfl, ?_⟩, UP.out⟩
    rw [I.out, HD.out]
    exact ⟨fun h => .inr ⟨E.out, h⟩, fun h => by rcases h with h | h; exact absurd h.1 E.out; exact h.2⟩
/-- The Size of data. -/
def datSize (d : DataM) : Prop := 1 ≤ d.size ∧ d.size ≤ 4096 ∧ (d.bytes.length : Int) ≤ d.size
set_option maxRecDepth 100000 in
set_option maxHeartbeats 1000000 in
theorem sized_data {d : DataM} (h : DataV A w u d) : Calls Tryz.prog 87 #[u] w fun e w' => Says e (datSize d) ∧ Below w.heap.size w w' := by
  obtain ⟨vb, vr, rfl, hb, hr, hs⟩ := h
  obtain ⟨xn, xb, xa, xf, xz, lb, lr⟩ := d
  dsimp only at *
  obtain ⟨ba, bc, rfl, bm, -, -⟩ := LstA.open hb.1
  obtain ⟨D, eD⟩ : ∃ D : DataM, D = ⟨xn, xb, xa, xf, xz, lb, lr⟩ := ⟨_, rfl⟩
  have HD : Hid (datSize D ↔ 1 ≤ xz ∧ xz ≤ 4096 ∧ (lb.length : Int) ≤ xz) := by rw [eD]; exact Iff.rfl
  rw [← eD]
  clear eD
  generalize lb.length = n at *
  unfold maxLen at bm
  have UP : Hid (Below w.heap.size w (w.alloc (.cells #[.string xn, .int .i64 xb, .int .i64 xa, .bool xf, .int .i64 xz, .slice ba n bc, vr] 52))) := keep_alloc8 (Below.refl _ _) _
  have X1 : Hid (XAt (w.alloc (.cells #[.string xn, .int .i64 xb, .int .i64 xa, .bool xf, .int .i64 xz, .slice ba n bc, vr] 52)) w.heap.size [.string xn, .int .i64 xb, .int .i64 xa, .bool xf, .int .i64 xz, .slice ba n bc, vr]) := XAt.new _ _ _
  obtain ⟨ra, rc, rfl, -, -, -⟩ := LstA.open hr
  clear hb hr hs
  go_enter Tryz.func87, Tryz.ntmps87
  go_upto_region 1 with fail
  generalize w.alloc (.cells #[.string xn, .int .i64 xb, .int .i64 xa, .bool xf, .int .i64 xz, .slice ba n bc, .slice ra lr.length rc] 52) = w0 at UP X1 ⊢
  have y4 := X1.out.1 4 _ rfl
  have y5 := X1.out.1 5 _ rfl
  by_cases h1 : 1 ≤ xz
  · by_cases h2 : xz ≤ 4096
    · by_cases h3 : (n : Int) ≤ xz
      · have E : Hid (datSize D) := HD.out.2 ⟨h1, h2, h3⟩
        go_wp2
        go_ret
        exact ⟨⟨_, rfl, iff_yes E.out⟩, UP.out⟩
      · have q : decide ((n : Int) ≤ xz) = false := by simpa using h3
        have E : Hid (¬ datSize D) := fun h => h3 (HD.out.1 h).2.2
        go_wp2
        go_ret
        exact ⟨⟨_, rfl, iff_no E.out⟩, UP.out⟩
    · have q : decide (xz ≤ 4096) = false := by simpa using h2
      have E : Hid (¬ datSize D) := fun h => h2 (HD.out.1 h).2.1
      go_wp2
      go_ret
      exact ⟨⟨_, rfl, iff_no E.out⟩, UP.out⟩
  · have q : decide (1 ≤ xz) = false := by simpa using h1
    have E : Hid (¬ datSize D) := fun h => h1 (HD.out.1 h).1
    go_wp2
    go_ret
    exact ⟨⟨_, rfl, iff_no E.out⟩, UP.out⟩
set_option maxRecDepth 100000 in
set_option maxHeartbeats 2000000 in
theorem relocated_data {d : DataM} (h : DataV A w u d) (hz1 : 1 ≤ d.size) (hz2 : d.size ≤ 4096) : Calls Tryz.prog 88 #[u] w fun e w' => Says e (drelsUpto d.size d.rels d.rels.length) ∧ Below w.heap.size w w' := by
  obtain ⟨vb, vr, rfl, hb, hr, hs⟩ := h
  obtain ⟨xn, xb, xa, xf, xz, lb, lr⟩ := d
  dsimp only at *
  obtain ⟨ba, bc, rfl, -, -, -⟩ := LstA.open hb.1
  obtain ⟨ra, rc, rfl, rm, -, rx⟩ := LstA.open hr
  obtain ⟨n, en⟩ : ∃ n, lr.length = n := ⟨_, rfl⟩
  obtain ⟨m, em⟩ : ∃ m, lb.length = m := ⟨_, rfl⟩
  rw [en] at rm rx ⊢
  rw [em]
  have RX : Hid (∀ k, k < n → ∃ b off x, ra = some ⟨b, off, none⟩ ∧ A b ∧ lr[k]? = some x ∧ RelAt w b (off + k * 4) x) := rx
  have HN : Hid (lr.length = n) := en
  unfold maxLen at rm
  have UP : Hid (Below w.heap.size w (w.alloc (.cells #[.string xn, .int .i64 xb, .int .i64 xa, .bool xf, .int .i64 xz, .slice ba m bc, .slice ra n rc] 52))) := keep_alloc8 (Below.refl _ _) _
  have X1 : Hid (XAt (w.alloc (.cells #[.string xn, .int .i64 xb, .int .i64 xa, .bool xf, .int .i64 xz, .slice ba m bc, .slice ra n rc] 52)) w.heap.size [.string xn, .int .i64 xb, .int .i64 xa, .bool xf, .int .i64 xz, .slice ba m bc, .slice ra n rc]) := XAt.new _ _ _
  clear hb hr hs rx en em
  go_enter Tryz.func88, Tryz.ntmps88
  go_upto_region 1 with fail
  generalize w.alloc (.cells #[.string xn, .int .i64 xb, .int .i64 xa, .bool xf, .int .i64 xz, .slice ba m bc, .slice ra n rc] 52) = w0 at UP X1 ⊢
  have hX : Hid (w.heap.size < w0.heap.size) := X1.out.lt (by simp)
  have y6 := X1.out.1 6 _ rfl
  go_wp2
  clear y6
  go_loopw [9, 3] (fun i le wr => ∃ k : Nat, k ≤ n ∧ i = .int .i64 k ∧ le = .int .i64 (leastZ lr k) ∧ drelsUpto xz lr k ∧ Below w0.heap.size w0 wr) (fun i _ _ => n - (intOf i).toNat)
  case atStart => exact ⟨0, Nat.zero_le _, rfl, rfl, (fun i r hi => by omega), Below.refl _ _⟩
  case round =>
    obtain ⟨k, hk, rfl, rfl, hs, hbel⟩ := hrel
    have HB : Hid (Below w0.heap.size w0 wr) := hbel
    have HS : Hid (drelsUpto xz lr k) := hs
    have lb := least_bd hz1 hs (by rw [HN.out]; exact hk)
    clear hbel hs
    by_cases hlt : k < n
    · have hlt' : (k : Int) < n := by omega
      obtain ⟨q, off, ⟨xp, xk, xm, xd⟩, rfl, -, hx, x0, x1, x2, x3, -⟩ := RX.out k hlt
      dsimp only at x0 x1 x2 x3
      have HX : Hid (lr[k]? = some ⟨xp, xk, xm, xd⟩) := hx
      have SU : Hid (leastZ lr (k + 1) = xp + 4) := least_succ hx
      have NO : Hid (¬ drelOk xz (leastZ lr k) ⟨xp, xk, xm, xd⟩ → ¬ drelsUpto xz lr n) := fun h1 h2 => h1 (h2 k _ hlt hx)
      have YES : Hid (drelOk xz (leastZ lr k) ⟨xp, xk, xm, xd⟩ → drelsUpto xz lr (k + 1)) := fun h => drelsUpto_next HS.out hx h
      generalize leastZ lr k = le at lb NO YES ⊢
      replace x0 := cell_any x0 (bnext UP.out HB.out)
      replace x1 := cell_any x1 (bnext UP.out HB.out)
      replace x2 := cell_any x2 (bnext UP.out HB.out)
      replace x3 := cell_any x3 (bnext UP.out HB.out)
      have y4 := (X1.out.later hX.out HB.out).1 4 _ rfl
      clear hx
      go_upto_region 5 with fail
      have B2 : Hid (Below w0.heap.size w0 (wr.alloc (.cells #[.int .i64 xp, .int .i64 xk, .string xm, .int .i64 xd] 55))) := keep_alloc8 HB.out _
      have X3 : Hid (XAt (wr.alloc (.cells #[.int .i64 xp, .int .i64 xk, .string xm, .int .i64 xd] 55)) wr.heap.size [.int .i64 xp, .int .i64 xk, .string xm, .int .i64 xd]) := XAt.new _ _ _
      have y4' := cell_any y4 (keep_alloc8 (Below.refl _ wr) (.cells #[.int .i64 xp, .int .i64 xk, .string xm, .int .i64 xd] 55))
      generalize wr.alloc (.cells #[.int .i64 xp, .int .i64 xk, .string xm, .int .i64 xd] 55) = w2 at B2 X3 y4' ⊢
      clear x0 x1 x2 x3 y4
      have x0 := X3.out.1 0 _ rfl
      have x1 := X3.out.1 1 _ rfl
      by_cases h1 : xk = 4
      · subst h1
        by_cases h2 : xp < le
        · go_wp2
          go_ret
          exact ⟨⟨false, rfl, iff_no (NO.out fun e => by have := e.2.1; dsimp only at this; omega)⟩, bnext UP.out B2.out⟩
        replace h2 : le ≤ xp := by omega
        by_cases h3 : xz - 4 < xp
        · go_wp2
          go_ret
          exact ⟨⟨false, rfl, iff_no (NO.out fun e => by have := e.2.2; dsimp only at this; omega)⟩, bnext UP.out B2.out⟩
        replace h3 : xp ≤ xz - 4 := by omega
        go_wp2
        go_roundw
        case rel => exact ⟨k + 1, by omega, by go_num, by rw [SU.out], YES.out ⟨rfl, h2, h3⟩, B2.out⟩
        case measure => simp [intOf]; omega
      · have q1 : (xk != 4) = true := by simpa using h1
        have E : Hid (¬ xk = 4) := h1
        clear h1
        go_wp2
        go_ret
        exact ⟨⟨false, rfl, iff_no (NO.out fun e => E.out e.1)⟩, bnext UP.out B2.out⟩
    · obtain rfl : k = n := by omega
      go_wp2
      go_ret
      exact ⟨⟨true, rfl, iff_yes HS.out⟩, bnext UP.out HB.out⟩
theorem rdata_parts (d : DataM) : rdataOk d ↔ datBind d ∧ (d.align = 1 ∨ d.align = 2 ∨ d.align = 4 ∨ d.align = 8 ∨ d.align = 16) ∧ datSize d ∧ drelsUpto d.size d.rels d.rels.length := by
  unfold rdataOk datBind bindOk
  constructor
  · rintro ⟨h1, h2, h3, h4, h5⟩
    refine ⟨?_, h2, h3, h5⟩
    by_cases e : d.bind = 4
    · exact .inl ⟨e, h4 e⟩
    · exact .inr ⟨e, by omega⟩
  · rintro ⟨h1, h2, h3, h5⟩
    refine ⟨?_, h2, h3, ?_, h5⟩
    · rcases h1 with h1 | h1 <;> omega
    · intro e
      rcases h1 with h1 | h1
      · exact h1.2
      · exact absurd e h1.1
set_option maxRecDepth 100000 in
set_option maxHeartbeats 2000000 in
open Classical in
theorem data_any {d : DataM} (h : DataV A w u d) : Calls Tryz.prog 67 #[u] w fun e w' => e = .returned (.int .i64 (if rdataOk d then 0 else 4)) ∧ Below w.heap.size w w' := by
  have HV : Hid (DataV A w u d) := h
  obtain ⟨vb, vr, rfl, hb, hr, hs⟩ := h
  obtain ⟨ba, bc, rfl, -, -, -⟩ := LstA.open hb.1
  obtain ⟨ra, rc, rfl, -, -, -⟩ := LstA.open hr
  obtain ⟨c1, I1⟩ := bool_of (datBind d)
  obtain ⟨c2, I2⟩ := bool_of (d.align = 1 ∨ d.align = 2 ∨ d.align = 4 ∨ d.align = 8 ∨ d.align = 16)
  obtain ⟨c3, I3⟩ := bool_of (datSize d)
  obtain ⟨c4, I4⟩ := bool_of (drelsUpto d.size d.rels d.rels.length)
  have P : Hid (rdataOk d ↔ c1 = true ∧ c2 = true ∧ c3 = true ∧ c4 = true) := by unfold Hid; rw [rdata_parts, I1.out, I2.out, I3.out, I4.out]
  have C1 : Hid (∀ W, Below w.heap.size w W → Calls Tryz.prog 85 #[.agg #[.string d.name, .int .i64 d.bind, .int .i64 d.align, .bool d.fixed, .int .i64 d.size, .slice ba d.bytes.length bc, .slice ra d.rels.length rc]] W fun e w' => e = .returned (.bool c1) ∧ Below W.heap.size W w') := fun W hW => (bound_data (HV.out.keep (Stay.of_below hW))).mono fun e w' h => ⟨says_is h.1 I1.out, h.2⟩
  have C2 : Hid (∀ W, Calls Tryz.prog 86 #[.int .i64 d.align] W fun e w' => e = .returned (.bool c2) ∧ w' = W) := fun W => (aligned_any _ W).mono fun e w' h => ⟨says_is h.1 I2.out, h.2⟩
  have C3 : Hid (∀ W, Below w.heap.size w W → Calls Tryz.prog 87 #[.agg #[.string d.name, .int .i64 d.bind, .int .i64 d.align, .bool d.fixed, .int .i64 d.size, .slice ba d.bytes.length bc, .slice ra d.rels.length rc]] W fun e w' => e = .returned (.bool c3) ∧ Below W.heap.size W w') := fun W hW => (sized_data (HV.out.keep (Stay.of_below hW))).mono fun e w' h => ⟨says_is h.1 I3.out, h.2⟩
  have C4 : Hid (c3 = true → ∀ W, Below w.heap.size w W → Calls Tryz.prog 88 #[.agg #[.string d.name, .int .i64 d.bind, .int .i64 d.align, .bool d.fixed, .int .i64 d.size, .slice ba d.bytes.length bc, .slice ra d.rels.length rc]] W fun e w' => e = .returned (.bool c4) ∧ Below W.heap.size W w') := fun e3 W hW => (relocated_data (HV.out.keep (Stay.of_below hW)) (I3.out.1 e3).1 (I3.out.1 e3).2.1).mono fun e w' h => ⟨says_is h.1 I4.out, h.2⟩
  have HR : Hid ((if rdataOk d then (0 : Int) else 4) = if (c1 && c2 && c3 && c4) = true then 0 else 4) := by
    unfold Hid
    by_cases e : rdataOk d
    · rw [if_pos e, if_pos]; have := P.out.1 e; simp [this]
    · rw [if_neg e, if_neg]; intro h; simp at h; exact e (P.out.2 ⟨h.1.1.1, h.1.1.2, h.1.2, h.2⟩)
  rw [HR.out]
  have UP : Hid (Below w.heap.size w (w.alloc (.cells #[.string d.name, .int .i64 d.bind, .int .i64 d.align, .bool d.fixed, .int .i64 d.size, .slice ba d.bytes.length bc, .slice ra d.rels.length rc] 52))) := keep_alloc8 (Below.refl _ _) _
  have X1 : Hid (XAt (w.alloc (.cells #[.string d.name, .int .i64 d.bind, .int .i64 d.align, .bool d.fixed, .int .i64 d.size, .slice ba d.bytes.length bc, .slice ra d.rels.length rc] 52)) w.heap.size [.string d.name, .int .i64 d.bind, .int .i64 d.align, .bool d.fixed, .int .i64 d.size, .slice ba d.bytes.length bc, .slice ra d.rels.length rc]) := XAt.new _ _ _
  clear HR P I1 I2 I3 I4 HV hb hr hs
  generalize d.bytes.length = m at *
  generalize d.rels.length = n at *
  go_enter Tryz.func67, Tryz.ntmps67
  go_upto_region 1 with fail
  generalize w.alloc (.cells #[.string d.name, .int .i64 d.bind, .int .i64 d.align, .bool d.fixed, .int .i64 d.size, .slice ba m bc, .slice ra n rc] 52) = w0 at UP X1 ⊢
  have hX : Hid (w.heap.size < w0.heap.size) := X1.out.lt (by simp)
  have y0 := X1.out.1 0 _ rfl
  have y1 := X1.out.1 1 _ rfl
  have y2 := X1.out.1 2 _ rfl
  have y3 := X1.out.1 3 _ rfl
  have y4 := X1.out.1 4 _ rfl
  have y5 := X1.out.1 5 _ rfl
  have y6 := X1.out.1 6 _ rfl
  cases c1
  · go_wp2_with (first | (go_at_call 68; refine (need_any _ _ _).mono ?_; rintro e w9 ⟨rfl, hw9⟩; obtain rfl := hw9.symm) | (go_at_call 85; refine (C1.out _ UP.out).mono ?_; rintro e w1 ⟨rfl, b1⟩; have B1 := Hid.mk0 b1; have y0 := (X1.out.later hX.out B1.out).1 0 _ rfl; have y1 := (X1.out.later hX.out B1.out).1 1 _ rfl; have y2 := (X1.out.later hX.out B1.out).1 2 _ rfl; have y3 := (X1.out.later hX.out B1.out).1 3 _ rfl; have y4 := (X1.out.later hX.out B1.out).1 4 _ rfl; have y5 := (X1.out.later hX.out B1.out).1 5 _ rfl; have y6 := (X1.out.later hX.out B1.out).1 6 _ rfl; clear b1))
    go_ret
    exact ⟨rfl, bnext UP.out B1.out⟩
  cases c2
  · go_wp2_with (first | (go_at_call 68; refine (need_any _ _ _).mono ?_; rintro e w9 ⟨rfl, hw9⟩; obtain rfl := hw9.symm) | (go_at_call 86; refine (C2.out _).mono ?_; rintro e w2 ⟨rfl, rfl⟩) | (go_at_call 85; refine (C1.out _ UP.out).mono ?_; rintro e w1 ⟨rfl, b1⟩; have B1 := Hid.mk0 b1; have y0 := (X1.out.later hX.out B1.out).1 0 _ rfl; have y1 := (X1.out.later hX.out B1.out).1 1 _ rfl; have y2 := (X1.out.later hX.out B1.out).1 2 _ rfl; have y3 := (X1.out.later hX.out B1.out).1 3 _ rfl; have y4 := (X1.out.later hX.out B1.out).1 4 _ rfl; have y5 := (X1.out.later hX.out B1.out).1 5 _ rfl; have y6 := (X1.out.later hX.out B1.out).1 6 _ rfl; clear b1))
    go_ret
    exact ⟨rfl, bnext UP.out B1.out⟩
  cases c3
  · go_wp2_with (first | (go_at_call 68; refine (need_any _ _ _).mono ?_; rintro e w9 ⟨rfl, hw9⟩; obtain rfl := hw9.symm) | (go_at_call 87; refine (C3.out _ (bnext UP.out B1.out)).mono ?_; rintro e w3 ⟨rfl, b3⟩; have B3 := Hid.mk0 (bnext B1.out b3); have y0 := (X1.out.later hX.out B3.out).1 0 _ rfl; have y1 := (X1.out.later hX.out B3.out).1 1 _ rfl; have y2 := (X1.out.later hX.out B3.out).1 2 _ rfl; have y3 := (X1.out.later hX.out B3.out).1 3 _ rfl; have y4 := (X1.out.later hX.out B3.out).1 4 _ rfl; have y5 := (X1.out.later hX.out B3.out).1 5 _ rfl; have y6 := (X1.out.later hX.out B3.out).1 6 _ rfl; clear b3) | (go_at_call 86; refine (C2.out _).mono ?_; rintro e w2 ⟨rfl, rfl⟩) | (go_at_call 85; refine (C1.out _ UP.out).mono ?_; rintro e w1 ⟨rfl, b1⟩; have B1 := Hid.mk0 b1; have y0 := (X1.out.later hX.out B1.out).1 0 _ rfl; have y1 := (X1.out.later hX.out B1.out).1 1 _ rfl; have y2 := (X1.out.later hX.out B1.out).1 2 _ rfl; have y3 := (X1.out.later hX.out B1.out).1 3 _ rfl; have y4 := (X1.out.later hX.out B1.out).1 4 _ rfl; have y5 := (X1.out.later hX.out B1.out).1 5 _ rfl; have y6 := (X1.out.later hX.out B1.out).1 6 _ rfl; clear b1))
    go_ret
    exact ⟨rfl, bnext UP.out B3.out⟩
  cases c4
  all_goals
    go_wp2_with (first | (go_at_call 68; refine (need_any _ _ _).mono ?_; rintro e w9 ⟨rfl, hw9⟩; obtain rfl := hw9.symm) | (go_at_call 88; refine (C4.out (by first | rfl | trivial) _ (bnext UP.out B3.out)).mono ?_; rintro e w4 ⟨rfl, b4⟩; have B4 := Hid.mk0 (bnext B3.out b4); clear b4) | (go_at_call 87; refine (C3.out _ (bnext UP.out B1.out)).mono ?_; rintro e w3 ⟨rfl, b3⟩; have B3 := Hid.mk0 (bnext B1.out b3); have y0 := (X1.out.later hX.out B3.out).1 0 _ rfl; have y1 := (X1.out.later hX.out B3.out).1 1 _ rfl; have y2 := (X1.out.later hX.out B3.out).1 2 _ rfl; have y3 := (X1.out.later hX.out B3.out).1 3 _ rfl; have y4 := (X1.out.later hX.out B3.out).1 4 _ rfl; have y5 := (X1.out.later hX.out B3.out).1 5 _ rfl; have y6 := (X1.out.later hX.out B3.out).1 6 _ rfl; clear b3) | (go_at_call 86; refine (C2.out _).mono ?_; rintro e w2 ⟨rfl, rfl⟩) | (go_at_call 85; refine (C1.out _ UP.out).mono ?_; rintro e w1 ⟨rfl, b1⟩; have B1 := Hid.mk0 b1; have y0 := (X1.out.later hX.out B1.out).1 0 _ rfl; have y1 := (X1.out.later hX.out B1.out).1 1 _ rfl; have y2 := (X1.out.later hX.out B1.out).1 2 _ rfl; have y3 := (X1.out.later hX.out B1.out).1 3 _ rfl; have y4 := (X1.out.later hX.out B1.out).1 4 _ rfl; have y5 := (X1.out.later hX.out B1.out).1 5 _ rfl; have y6 := (X1.out.later hX.out B1.out).1 6 _ rfl; clear b1))
    go_ret
    exact ⟨rfl, bnext UP.out B4.out⟩
end
open Go.ChangeShapes Go.WideShapes Go.ChangeAt Go.RowKit Go.Deep
set_option linter.unusedVariables false
set_option linter.unusedSimpArgs false
set_option maxRecDepth 100000

/-- The first n instructions of the words f stand at the head of block g, five cells each. -/
def RowAt (w : World) (g n : Nat) (f : Nat → Int) : Prop := ∀ i, i < n →
  w.cell? ⟨g, i * 5, none⟩ = some (.int .i64 (gO (f i))) ∧ w.cell? ⟨g, i * 5 + 1, none⟩ = some (.int .i64 (gA (f i))) ∧ w.cell? ⟨g, i * 5 + 2, none⟩ = some (.int .i64 (gB (f i))) ∧
  w.cell? ⟨g, i * 5 + 3, none⟩ = some (.int .i64 (gC (f i))) ∧ w.cell? ⟨g, i * 5 + 4, none⟩ = some (.int .i64 (gI (f i)))
theorem RowAt.later {w w' : World} {g n : Nat} {f : Nat → Int} (h : RowAt w g n f) (hb : Below w.heap.size w w') : RowAt w' g n f := fun i hi =>
  ⟨cell_later hb (h i hi).1, cell_later hb (h i hi).2.1, cell_later hb (h i hi).2.2.1, cell_later hb (h i hi).2.2.2.1, cell_later hb (h i hi).2.2.2.2⟩

theorem info23 : (Tryz.prog.info? 112).map (fun i => (i.zero, i.size, i.bytes)) = some (some (.agg #[.int .i64 0, .int .i64 0, .int .i64 0, .int .i64 0, .int .i64 0]), 5, 40) := by kernel_rfl

/-- What the loop of code.All keeps: the row of block g, so far. -/
def Made (w : World) (g len k : Nat) (f : Nat → Int) : Prop :=
  RowAt w g k f ∧ (∀ q, q < len * 5 → ∃ v, w.cell? ⟨g, q, none⟩ = some v) ∧ (∀ q, w.frozen? ⟨g, q, none⟩ = false) ∧ g < w.heap.size

/-- The world behind the five stores of one instruction, and a new block. -/
def put5 (w : World) (g o : Nat) (u0 u1 u2 u3 u4 : Value) : World :=
  (((((w.setCell ⟨g, o, none⟩ u0).setCell ⟨g, o + 1, none⟩ u1).setCell ⟨g, o + 2, none⟩ u2).setCell ⟨g, o + 3, none⟩ u3).setCell ⟨g, o + 4, none⟩ u4)
theorem sam {w : World} {a : Addr} {v u : Value} (h : w.cell? a = some u) : (w.setCell a v).cell? a = some v := World.cell?_setCell_same _ _ _ h
theorem oth {w : World} {a b : Addr} {v : Value} (h : a ≠ b) : (w.setCell a v).cell? b = w.cell? b := World.cell?_setCell_other _ _ _ _ h
theorem put5_other {w : World} {g o : Nat} {u0 u1 u2 u3 u4 : Value} {q : Nat} (h : q < o ∨ o + 5 ≤ q) : (put5 w g o u0 u1 u2 u3 u4).cell? ⟨g, q, none⟩ = w.cell? ⟨g, q, none⟩ := by
  unfold put5
  rw [oth (by simp <;> omega), oth (by simp <;> omega), oth (by simp <;> omega), oth (by simp <;> omega), oth (by simp <;> omega)]
theorem put5_at {w : World} {g o : Nat} {u0 u1 u2 u3 u4 : Value} (h : ∀ q, o ≤ q → q < o + 5 → ∃ v, w.cell? ⟨g, q, none⟩ = some v) :
    (put5 w g o u0 u1 u2 u3 u4).cell? ⟨g, o, none⟩ = some u0 ∧ (put5 w g o u0 u1 u2 u3 u4).cell? ⟨g, o + 1, none⟩ = some u1 ∧ (put5 w g o u0 u1 u2 u3 u4).cell? ⟨g, o + 2, none⟩ = some u2 ∧ (put5 w g o u0 u1 u2 u3 u4).cell? ⟨g, o + 3, none⟩ = some u3 ∧ (put5 w g o u0 u1 u2 u3 u4).cell? ⟨g, o + 4, none⟩ = some u4 := by
  obtain ⟨v0, h0⟩ := h o (by omega) (by omega)
  obtain ⟨v1, h1⟩ := h (o + 1) (by omega) (by omega)
  obtain ⟨v2, h2⟩ := h (o + 2) (by omega) (by omega)
  obtain ⟨v3, h3⟩ := h (o + 3) (by omega) (by omega)
  obtain ⟨v4, h4⟩ := h (o + 4) (by omega) (by omega)
  unfold put5
  refine ⟨?_, ?_, ?_, ?_, ?_⟩
  · rw [oth (by simp), oth (by simp), oth (by simp), oth (by simp)]; exact sam (u := v0) h0
  · rw [oth (by simp), oth (by simp), oth (by simp)]; exact sam (u := v1) (by rw [oth (by simp)]; exact h1)
  · rw [oth (by simp), oth (by simp)]; exact sam (u := v2) (by rw [oth (by simp), oth (by simp)]; exact h2)
  · rw [oth (by simp)]; exact sam (u := v3) (by rw [oth (by simp), oth (by simp), oth (by simp)]; exact h3)
  · exact sam (u := v4) (by rw [oth (by simp), oth (by simp), oth (by simp), oth (by simp)]; exact h4)
theorem put5_any {w : World} {g o : Nat} {u0 u1 u2 u3 u4 : Value} {q : Addr} {v : Value} (h : w.cell? q = some v) : ∃ v', (put5 w g o u0 u1 u2 u3 u4).cell? q = some v' := by
  unfold put5
  obtain ⟨v0, h0⟩ := cell?_setCell_some (p := ⟨g, o, none⟩) (x := u0) h
  obtain ⟨v1, h1⟩ := cell?_setCell_some (p := ⟨g, o + 1, none⟩) (x := u1) h0
  obtain ⟨v2, h2⟩ := cell?_setCell_some (p := ⟨g, o + 2, none⟩) (x := u2) h1
  obtain ⟨v3, h3⟩ := cell?_setCell_some (p := ⟨g, o + 3, none⟩) (x := u3) h2
  exact cell?_setCell_some (p := ⟨g, o + 4, none⟩) (x := u4) h3
theorem put5_size {w : World} {g o : Nat} {u0 u1 u2 u3 u4 : Value} : (put5 w g o u0 u1 u2 u3 u4).heap.size = w.heap.size := by unfold put5; simp
theorem put5_frozen {w : World} {g o : Nat} {u0 u1 u2 u3 u4 : Value} (q : Addr) : (put5 w g o u0 u1 u2 u3 u4).frozen? q = w.frozen? q := by unfold put5; simp
theorem put5_below {B : Nat} {a w : World} (h : Below B a w) {g : Nat} (hg : B ≤ g) (o : Nat) (u0 u1 u2 u3 u4 : Value) : Below B a (put5 w g o u0 u1 u2 u3 u4) :=
  ((((h.setCell (p := ⟨g, o, none⟩) hg u0).setCell (p := ⟨g, o + 1, none⟩) hg u1).setCell (p := ⟨g, o + 2, none⟩) hg u2).setCell (p := ⟨g, o + 3, none⟩) hg u3).setCell (p := ⟨g, o + 4, none⟩) hg u4

theorem Made.later {w w' : World} {g len k : Nat} {f : Nat → Int} (h : Made w g len k f) (hb : Below w.heap.size w w') : Made w' g len k f :=
  ⟨h.1.later hb, fun q hq => by obtain ⟨v, hv⟩ := h.2.1 q hq; exact ⟨v, cell_later hb hv⟩, fun q => (hb.frozen (p := ⟨g, q, none⟩) h.2.2.2).trans (h.2.2.1 q), Nat.lt_of_lt_of_le h.2.2.2 hb.size⟩
theorem Made.step {w : World} {g len k : Nat} {f : Nat → Int} (h : Made w g len k f) (hk : k < len) (o : Obj) :
    Made ((put5 w g (k * 5) (.int .i64 (gO (f k))) (.int .i64 (gA (f k))) (.int .i64 (gB (f k))) (.int .i64 (gC (f k))) (.int .i64 (gI (f k)))).alloc o) g len (k + 1) f := by
  refine Made.later (w := put5 w g (k * 5) (.int .i64 (gO (f k))) (.int .i64 (gA (f k))) (.int .i64 (gB (f k))) (.int .i64 (gC (f k))) (.int .i64 (gI (f k)))) ?_ ((Below.refl _ _).alloc (Nat.le_refl _) _)
  obtain ⟨h1, h2, h3, h4⟩ := h
  refine ⟨?_, ?_, ?_, ?_⟩
  · intro i hi
    by_cases e : i < k
    · obtain ⟨c0, c1, c2, c3, c4⟩ := h1 i e
      exact ⟨(put5_other (by omega)).trans c0, (put5_other (by omega)).trans c1, (put5_other (by omega)).trans c2, (put5_other (by omega)).trans c3, (put5_other (by omega)).trans c4⟩
    · obtain rfl : i = k := by omega
      exact put5_at (fun q hq hq' => h2 q (by omega))
  · intro q hq
    obtain ⟨v, hv⟩ := h2 q hq
    exact put5_any hv
  · intro q; rw [put5_frozen]; exact h3 q
  · rw [put5_size]; exact h4
theorem Made.start (w : World) (len : Nat) (f : Nat → Int) : Made (w.alloc (.cells (madeCells #[.int .i64 0, .int .i64 0, .int .i64 0, .int .i64 0, .int .i64 0] (len * 5)) 112)) w.heap.size len 0 f := by
  refine ⟨fun i hi => by omega, fun q hq => ?_, fun q => by simp [go_sem], by simp⟩
  have hs : q < (madeCells #[Value.int .i64 0, .int .i64 0, .int .i64 0, .int .i64 0, .int .i64 0] (len * 5)).size := by rw [size_madeCells]; exact hq
  exact ⟨_, new_cell' w _ 112 q _ (Array.getElem?_eq_getElem hs)⟩

set_option maxHeartbeats 1000000 in
theorem all_any (w : World) (b off len cap n : Nat) (f : Nat → Int) (hm : len ≤ 5000) (hT : Tab w) (hf : ∀ i, 0 ≤ f i ∧ f i < 4294967296)
    (hc : ∀ i, i < len → w.cell? ⟨b, off + i, none⟩ = some (.int .u32 (f i))) (hok : ∀ i, i < n → okG (f i) = true) (hn : n ≤ len) (hbad : n < len → okG (f n) = false) :
    Calls Tryz.prog 111 #[.slice (some ⟨b, off, none⟩) len cap] w fun e w' => ((n = len ∧ e = .returned (.tuple #[.slice (some ⟨w.heap.size, 0, none⟩) len len, .int .i64 (-1)]) ∧ Made w' w.heap.size len len f) ∨ (n < len ∧ e = .returned (.tuple #[.slice none 0 0, .int .i64 n]))) ∧ Below w.heap.size w w' := by
  obtain ⟨i0, hi, hz0, hz1, hz2⟩ := info_parts info23
  have hmk : ∀ w, (Instr.makeSlice 108 (.int .i64 (len : Int)) (.int .i64 (len : Int))).run Tryz.prog w = .ok (.slice (some ⟨w.heap.size, 0, none⟩) len len) (w.alloc (.cells (madeCells #[.int .i64 0, .int .i64 0, .int .i64 0, .int .i64 0, .int .i64 0] (len * 5)) 112)) := by
    intro w
    have h := run_make (P := Tryz.prog) w 108 112 i0 _ Tryz.underlying108 hi hz0 .i64 .i64 len len (by omega) (Int.le_refl _) (by rw [hz2]; omega) (by omega)
    simp only [Int.toNat_natCast, hz1] at h
    exact h
  have HT : Hid (Tab w) := hT
  have HC : Hid (∀ i, i < len → w.cell? ⟨b, off + i, none⟩ = some (.int .u32 (f i))) := hc
  have HF : Hid (∀ i, 0 ≤ f i ∧ f i < 4294967296) := hf
  have HO : Hid (∀ i, i < n → okG (f i) = true) := hok
  have HN : Hid (n < len → okG (f n) = false) := hbad
  clear hT hc hf hok hbad
  go_enter Tryz.func111, Tryz.ntmps111
  go_wp2
  go_loopw [14] (fun i wr => ∃ k : Nat, k ≤ n ∧ i = .int .i64 k ∧ Made wr w.heap.size len k f ∧ Below w.heap.size w wr) (fun i _ => len - (intOf i).toNat)
  case atStart => exact ⟨0, by omega, rfl, Made.start w len f, (Below.refl _ _).alloc (Nat.le_refl _) _⟩
  case round =>
    obtain ⟨k, hk, rfl, hmade, hbel⟩ := hrel
    have HM : Hid (Made wr w.heap.size len k f) := hmade
    have HB : Hid (Below w.heap.size w wr) := hbel
    clear hmade hbel
    by_cases hlt : k < len
    · have c1 := cell_later HB.out (HC.out k hlt)
      have hfk := HF.out k
      by_cases hkn : k < n
      · have HG : Hid (∀ wx, Tab wx → Calls Tryz.prog 127 #[.int .u32 (f k)] wx fun e w' => e = .returned (.tuple #[.agg #[.int .i64 (gO (f k)), .int .i64 (gA (f k)), .int .i64 (gB (f k)), .int .i64 (gC (f k)), .int .i64 (gI (f k))], .int .i64 0]) ∧ Below wx.heap.size wx w') := by
          intro wx hx
          have := get_all (f k) wx hfk.1 hfk.2 hx
          rw [if_pos (HO.out k hkn)] at this; exact this
        go_wp2_with fail
        refine Calls.mono (HG.out _ (HT.out.later HB.out)) ?_
        rintro e w1 ⟨rfl, hb1⟩
        have HM1 : Hid (Made w1 w.heap.size len k f) := HM.out.later hb1
        have HB1 : Hid (Below w.heap.size w w1) := HB.out.trans (hb1.mono HB.out.size)
        obtain ⟨v0, d0⟩ := HM1.out.2.1 (k * 5) (by omega)
        obtain ⟨v1, d1⟩ := HM1.out.2.1 (k * 5 + 1) (by omega)
        obtain ⟨v2, d2⟩ := HM1.out.2.1 (k * 5 + 2) (by omega)
        obtain ⟨v3, d3⟩ := HM1.out.2.1 (k * 5 + 3) (by omega)
        obtain ⟨v4, d4⟩ := HM1.out.2.1 (k * 5 + 4) (by omega)
        have hfr := HM1.out.2.2.1
        have hs := HM1.out.2.2.2
        clear hb1 c1 hfk
        go_wp2
        go_roundw
        case rel => exact ⟨k + 1, by omega, by go_num, HM1.out.step hlt _, (put5_below HB1.out (Nat.le_refl _) _ _ _ _ _ _).alloc (by rw [put5_size]; exact HB1.out.size) _⟩
        case measure => simp [intOf]; omega
      · obtain rfl : k = n := by omega
        have HG : Hid (∀ wx, Tab wx → Calls Tryz.prog 127 #[.int .u32 (f k)] wx fun e w' => e = .returned (.tuple #[.agg #[.int .i64 0, .int .i64 0, .int .i64 0, .int .i64 0, .int .i64 0], .int .i64 3]) ∧ Below wx.heap.size wx w') := by
          intro wx hx
          have := get_all (f k) wx hfk.1 hfk.2 hx
          rw [if_neg (by rw [HN.out hlt]; decide)] at this; exact this
        go_wp2_with fail
        refine Calls.mono (HG.out _ (HT.out.later HB.out)) ?_
        rintro e w1 ⟨rfl, hb1⟩
        have HB1 : Hid (Below w.heap.size w w1) := HB.out.trans (hb1.mono HB.out.size)
        clear hb1 c1 hfk
        go_wp2
        go_ret2
        exact ⟨Or.inr ⟨hlt, rfl⟩, HB1.out.alloc HB1.out.size _⟩
    · obtain rfl : k = len := by omega
      obtain rfl : k = n := by omega
      go_wp2
      go_ret2
      exact ⟨⟨rfl, HM.out⟩, HB.out⟩


theorem first_bad (l : List Int) : ∃ n, n ≤ l.length ∧ (∀ i, i < n → okG (gF l i) = true) ∧ (n < l.length → okG (gF l n) = false) := by
  induction l with
  | nil => exact ⟨0, Nat.zero_le _, (fun i h => by omega), fun h => by simp at h⟩
  | cons x l ih =>
    by_cases hx : okG x = true
    · obtain ⟨n, h1, h2, h3⟩ := ih
      refine ⟨n + 1, by simp; omega, fun i hi => ?_, fun h => ?_⟩
      · cases i with
        | zero => exact hx
        | succ i => exact h2 i (by omega)
      · exact h3 (by simpa using h)
    · exact ⟨0, Nat.zero_le _, (fun i h => by omega), fun _ => by
        show okG x = false
        cases e : okG x
        · rfl
        · exact absurd e hx⟩
theorem codes_iff {l : List Int} {n : Nat} (h1 : n ≤ l.length) (h2 : ∀ i, i < n → okG (gF l i) = true) (h3 : n < l.length → okG (gF l n) = false) : codesOk l ↔ n = l.length := by
  constructor
  · intro h
    rcases Nat.lt_or_ge n l.length with e | e
    · have := h (gF l n) (List.mem_of_getElem? (gF_get e)); rw [h3 e] at this; cases this
    · omega
  · intro e x hx
    obtain ⟨j, hj⟩ := List.mem_iff_getElem?.1 hx
    have hl := (List.getElem?_eq_some_iff.1 hj).1
    rw [gF_get hl] at hj
    cases hj
    exact h2 j (by omega)
theorem words_bd {A : Nat → Prop} {w : World} {v : Value} {l : List Int} (h : IsWords A w v l) : ∀ i, 0 ≤ gF l i ∧ gF l i < 4294967296 := fun i => by
  unfold gF
  rw [List.getD_eq_getElem?_getD]
  cases hi : l[i]? with
  | none => simp
  | some x => simp; exact h.2 x (List.mem_of_getElem? hi)
theorem all_words {A : Nat → Prop} {w : World} {v : Value} {l : List Int} (h : IsWords A w v l) (hne : l ≠ []) (hm : l.length ≤ 5000) (hT : Tab w) :
    Calls Tryz.prog 111 #[v] w fun e w' => ((codesOk l ∧ e = .returned (.tuple #[.slice (some ⟨w.heap.size, 0, none⟩) l.length l.length, .int .i64 (-1)]) ∧ RowAt w' w.heap.size l.length (gF l) ∧ w.heap.size < w'.heap.size) ∨ (¬ codesOk l ∧ ∃ k : Nat, e = .returned (.tuple #[.slice none 0 0, .int .i64 k]))) ∧ Below w.heap.size w w' := by
  obtain ⟨n, h1, h2, h3⟩ := first_bad l
  have hc := codes_iff h1 h2 h3
  obtain ⟨a, c, rfl, -, -, hl⟩ := h.1
  rcases hl with e | ⟨b, off, rfl, hx⟩
  · exact absurd e hne
  · refine (all_any w b off l.length c n (gF l) hm hT (words_bd h) (fun i hi => by have := hx i _ (gF_get hi); rw [Nat.mul_one] at this; exact this) h2 h1 h3).mono ?_
    rintro e w' ⟨⟨hn, rfl, hr⟩ | ⟨hn, rfl⟩, hb⟩
    · exact ⟨.inl ⟨hc.2 hn, rfl, hr.1, hr.2.2.2⟩, hb⟩
    · exact ⟨.inr ⟨fun h => by have := hc.1 h; omega, n, rfl⟩, hb⟩
end Go.Proofs.YteakbpcmafdikaaGreatDoor
