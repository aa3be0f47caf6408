/- Are data right? As the document says it. -/
import Derived.Test.YtnejpldbokodaaaDoorChkDataAll
import Derived.Deep.CutRange
namespace Go.Proofs.YtnejpldbokodaaaDoor
open Go.ChangeShapes Go.WideShapes Go.ChangeAt Go.RowKit
set_option linter.unusedVariables false
set_option linter.unusedSimpArgs false
section
variable {A : Nat → Prop} {w : World} {u v : Value}
set_option maxRecDepth 100000 in
set_option maxHeartbeats 8000000 in
theorem rdata_any {d : DataM} (h : DataV A w u d) (hb5 : d.bytes.length ≤ 5000) (hr1 : d.rels.length ≤ 100) : Calls Tryd.prog 7 #[u] w fun e w' => Says e (rdataOk d) ∧ Below w.heap.size w w' := by
  obtain ⟨vb, vr, rfl, hb, hr, hs⟩ := h
  obtain ⟨xn, xb, xa, xf, xz, lb, lr⟩ := d
  dsimp only at *
  obtain ⟨ba, bc, rfl, -, -, -⟩ := LstA.open hb.1
  obtain ⟨ra, rc, rfl, -, -, rx⟩ := LstA.open hr
  obtain ⟨D, eD⟩ : ∃ D : DataM, D = ⟨xn, xb, xa, xf, xz, lb, lr⟩ := ⟨_, rfl⟩
  obtain ⟨n, en⟩ : ∃ n, lb.length = n := ⟨_, rfl⟩
  obtain ⟨m, em⟩ : ∃ m, lr.length = m := ⟨_, rfl⟩
  have HD : Hid (rdataOk D ↔ (1 ≤ xb ∧ xb ≤ 4) ∧ (xa = 1 ∨ xa = 2 ∨ xa = 4 ∨ xa = 8 ∨ xa = 16) ∧ (1 ≤ xz ∧ xz ≤ 4096 ∧ (n : Int) ≤ xz) ∧ (xb = 4 → xf = false ∧ n = 0 ∧ m = 0) ∧ drelsUpto xz lr m) := by rw [eD, ← en, ← em]; exact Iff.rfl
  rw [← eD]
  rw [en] at hb5 ⊢
  rw [em] at rx hr1 ⊢
  have RX : Hid (∀ k, k < m → ∃ b off x, ra = some ⟨b, off, none⟩ ∧ A b ∧ lr[k]? = some x ∧ RelAt w b (off + k * 4) x) := rx
  have HN : Hid (lr.length = m) := em
  have hn' : (n : Int) ≤ 5000 := by omega
  have hm' : (m : Int) ≤ 100 := by omega
  have UP : Hid (Below w.heap.size w (w.alloc (.cells #[.string xn, .int .i64 xb, .int .i64 xa, .bool xf, .int .i64 xz, .slice ba n bc, .slice ra m rc] 25))) := keep_alloc8 (Below.refl _ _) _
  have X1 : Hid (XAt (w.alloc (.cells #[.string xn, .int .i64 xb, .int .i64 xa, .bool xf, .int .i64 xz, .slice ba n bc, .slice ra m rc] 25)) w.heap.size [.string xn, .int .i64 xb, .int .i64 xa, .bool xf, .int .i64 xz, .slice ba n bc, .slice ra m rc]) := XAt.new _ _ _
  clear hb hr hs rx en em eD
  go_enter Tryd.func7, Tryd.ntmps7
  go_upto_region 1 with fail
  generalize w.alloc (.cells #[.string xn, .int .i64 xb, .int .i64 xa, .bool xf, .int .i64 xz, .slice ba n bc, .slice ra m rc] 25) = w0 at UP X1 ⊢
  have hX : Hid (w.heap.size < w0.heap.size) := X1.out.lt (by simp)
  have y1 := X1.out.1 1 _ rfl
  have y2 := X1.out.1 2 _ rfl
  have y3 := X1.out.1 3 _ rfl
  have y4 := X1.out.1 4 _ rfl
  have y5 := X1.out.1 5 _ rfl
  have y6 := X1.out.1 6 _ rfl
  by_cases h1 : xb < 1
  · have E : Hid (¬ rdataOk D) := fun h => by have := (HD.out.1 h).1; omega
    go_wp2
    go_ret
    exact ⟨⟨_, rfl, iff_no E.out⟩, UP.out⟩
  by_cases h2 : 4 < xb
  · have E : Hid (¬ rdataOk D) := fun h => by have := (HD.out.1 h).1; omega
    replace h1 : 1 ≤ xb := by omega
    go_wp2
    go_ret
    exact ⟨⟨_, rfl, iff_no E.out⟩, UP.out⟩
  by_cases h3 : xz < 1
  · have E : Hid (¬ rdataOk D) := fun h => by have := (HD.out.1 h).2.2.1; omega
    replace h1 : 1 ≤ xb := by omega
    replace h2 : xb ≤ 4 := by omega
    go_wp2
    go_ret
    exact ⟨⟨_, rfl, iff_no E.out⟩, UP.out⟩
  by_cases h4 : 4096 < xz
  · have E : Hid (¬ rdataOk D) := fun h => by have := (HD.out.1 h).2.2.1; omega
    replace h1 : 1 ≤ xb := by omega
    replace h2 : xb ≤ 4 := by omega
    replace h3 : 1 ≤ xz := by omega
    go_wp2
    go_ret
    exact ⟨⟨_, rfl, iff_no E.out⟩, UP.out⟩
  by_cases h5 : xz < (n : Int)
  · have E : Hid (¬ rdataOk D) := fun h => by have := (HD.out.1 h).2.2.1; omega
    replace h1 : 1 ≤ xb := by omega
    replace h2 : xb ≤ 4 := by omega
    replace h3 : 1 ≤ xz := by omega
    replace h4 : xz ≤ 4096 := by omega
    go_wp2
    go_ret
    exact ⟨⟨_, rfl, iff_no E.out⟩, UP.out⟩
  replace h1 : 1 ≤ xb := by omega
  replace h2 : xb ≤ 4 := by omega
  replace h3 : 1 ≤ xz := by omega
  replace h4 : xz ≤ 4096 := by omega
  replace h5 : (n : Int) ≤ xz := by omega
  by_cases ha : xa = 1 ∨ xa = 2 ∨ xa = 4 ∨ xa = 8 ∨ xa = 16
  rotate_left
  · have E : Hid (¬ rdataOk D) := fun h => ha (HD.out.1 h).2.1
    have q1 : (xa != 1) = true := by simp; omega
    have q2 : (xa != 2) = true := by simp; omega
    have q3 : (xa != 4) = true := by simp; omega
    have q4 : (xa != 8) = true := by simp; omega
    have q5 : (xa != 16) = true := by simp; omega
    clear ha
    go_wp2
    go_ret
    exact ⟨⟨_, rfl, iff_no E.out⟩, UP.out⟩
  have HA : Hid (xa = 1 ∨ xa = 2 ∨ xa = 4 ∨ xa = 8 ∨ xa = 16) := ha
  have HD2 : Hid (rdataOk D ↔ (xb = 4 → xf = false ∧ n = 0 ∧ m = 0) ∧ drelsUpto xz lr m) := by
    unfold Hid
    rw [HD.out]
    exact ⟨fun h => h.2.2.2, fun h => ⟨⟨h1, h2⟩, HA.out, ⟨h3, h4, h5⟩, h⟩⟩
  clear HD HA
  go_upto_region 3 with fail
  go_cut [53] from 31 to 52 (fun z wx => z = .bool false ∧ wx = w0)
  case first =>
    rcases ha with rfl | rfl | rfl | rfl | rfl
    all_goals
      go_wp2
      go_meet
      exact ⟨rfl, rfl⟩
  obtain ⟨rfl, hwc⟩ := hcut
  obtain rfl := hwc.symm
  clear y2 ha
  go_upto_region 5 with fail
  by_cases hb4 : xb = 4 ∧ (xf = true ∨ 0 < n + m)
  · obtain ⟨rfl, hh⟩ := hb4
    cases xf
    · have hnm : (0 : Int) < (n : Int) + m := by rcases hh with h | h; cases h; omega
      have hnm' : 0 < n + m := by omega
      have E : Hid (¬ rdataOk D) := fun h => by have := (HD2.out.1 h).1 rfl; omega
      clear hh
      go_wp2
      go_ret
      exact ⟨⟨_, rfl, iff_no E.out⟩, UP.out⟩
    · have E : Hid (¬ rdataOk D) := fun h => by have := (HD2.out.1 h).1 rfl; exact absurd this.1 (by decide)
      clear hh
      go_wp2
      go_ret
      exact ⟨⟨_, rfl, iff_no E.out⟩, UP.out⟩
  have HD3 : Hid (rdataOk D ↔ drelsUpto xz lr m) := by
    unfold Hid
    rw [HD2.out]
    refine ⟨fun h => h.2, fun h => ⟨fun e => ?_, h⟩⟩
    have hh : ¬ (xf = true ∨ 0 < n + m) := fun q => hb4 ⟨e, q⟩
    refine ⟨?_, by omega, by omega⟩
    cases xf
    · rfl
    · exact absurd (Or.inl rfl) hh
  have P5 : Hid (xb = 4 ∧ xf = false ∧ n = 0 ∧ m = 0 ∨ xb ≠ 4) := by
    by_cases e : xb = 4
    · left
      have hh : ¬ (xf = true ∨ 0 < n + m) := fun q => hb4 ⟨e, q⟩
      refine ⟨e, ?_, by omega, by omega⟩
      cases xf
      · rfl
      · exact absurd (Or.inl rfl) hh
    · exact .inr e
  clear hb4 HD2
  go_cut [70] from 54 to 69 (fun z wx => z = .bool false ∧ wx = w0)
  case first =>
    rcases P5.out with ⟨rfl, rfl, rfl, rfl⟩ | h
    · go_wp2
      go_meet
      exact ⟨rfl, rfl⟩
    · have q : (xb == 4) = false := by simpa using h
      clear h P5
      go_wp2
      go_meet
      exact ⟨rfl, rfl⟩
  obtain ⟨rfl, hwc⟩ := hcut
  obtain rfl := hwc.symm
  clear y1 y3 y5 y4 y6 P5
  go_wp2
  go_loopw [3] (fun i wr => ∃ k : Nat, k ≤ m ∧ i = .int .i64 k ∧ drelsUpto xz lr k ∧ Below w0.heap.size w0 wr) (fun i _ => m - (intOf i).toNat)
  case atStart => exact ⟨0, Nat.zero_le _, rfl, (fun i r hi => by omega), Below.refl _ _⟩
  case round =>
    obtain ⟨k, hk, rfl, hs, hbel⟩ := hrel
    have HB : Hid (Below w0.heap.size w0 wr) := hbel
    have HS : Hid (drelsUpto xz lr k) := hs
    clear hbel hs
    have y6 := (X1.out.later hX.out HB.out).1 6 _ rfl
    by_cases hlt : k < m
    · have hlt' : (k : Int) < m := by omega
      have y4 := (X1.out.later hX.out HB.out).1 4 _ rfl
      obtain ⟨q, off, ⟨xp, xk, xm, xd⟩, rfl, -, hx, x0, x1, x2, x3, -⟩ := RX.out k hlt
      dsimp only at x0 x1 x2 x3
      have HX : Hid (lr[k]? = some ⟨xp, xk, xm, xd⟩) := hx
      have NO : Hid (¬ drelOk xz (leastZ lr k) ⟨xp, xk, xm, xd⟩ → ¬ rdataOk D) := fun h1 h2 => h1 (HD3.out.1 h2 k _ hlt hx)
      have YES : Hid (drelOk xz (leastZ lr k) ⟨xp, xk, xm, xd⟩ → drelsUpto xz lr (k + 1)) := fun h => drelsUpto_next HS.out hx h
      have PV : Hid (k = 0 ∧ leastZ lr k = 0 ∨ ∃ j pv, k = j + 1 ∧ leastZ lr k = pv + 4 ∧ 0 ≤ pv ∧ pv ≤ 4096 ∧ w.cell? ⟨q, off + j * 4, none⟩ = some (.int .i64 pv)) := by
        cases k with
        | zero => exact .inl ⟨rfl, rfl⟩
        | succ j =>
          right
          obtain ⟨q', off', r', e', -, hx', x0', -⟩ := RX.out j (by omega)
          simp only [Option.some.injEq, Addr.mk.injEq, and_true] at e'
          obtain ⟨rfl, rfl⟩ := e'
          have bd := least_bd (k := j) h3 (fun i r hi hr => HS.out i r (by omega) hr) (by rw [HN.out]; omega)
          have hj := HS.out j r' (by omega) hx'
          unfold drelOk at hj
          exact ⟨j, r'.at_, rfl, least_succ hx', by omega, by omega, x0'⟩
      have BB : Hid (Below w.heap.size w wr) := bnext UP.out HB.out
      replace x0 := cell_any x0 BB.out
      replace x1 := cell_any x1 BB.out
      replace x2 := cell_any x2 BB.out
      replace x3 := cell_any x3 BB.out
      clear hx
      go_upto_region 11 with fail
      have U3 : Hid (Below wr.heap.size wr (wr.alloc (.cells #[.int .i64 xp, .int .i64 xk, .string xm, .int .i64 xd] 36))) := keep_alloc8 (Below.refl _ _) _
      have X3 : Hid (XAt (wr.alloc (.cells #[.int .i64 xp, .int .i64 xk, .string xm, .int .i64 xd] 36)) wr.heap.size [.int .i64 xp, .int .i64 xk, .string xm, .int .i64 xd]) := XAt.new _ _ _
      generalize wr.alloc (.cells #[.int .i64 xp, .int .i64 xk, .string xm, .int .i64 xd] 36) = w2 at U3 X3 ⊢
      replace y4 := cell_any y4 U3.out
      replace y6 := cell_any y6 U3.out
      clear x0 x1 x2 x3
      have x0 := X3.out.1 0 _ rfl
      have x1 := X3.out.1 1 _ rfl
      by_cases hk4 : xk = 4
      rotate_left
      · have g1 : (xk != 4) = true := by simpa using hk4
        have E : Hid (¬ rdataOk D) := NO.out fun h => hk4 h.1
        clear hk4 PV NO YES
        go_quiet (fail)
        go_wp2
        go_ret
        exact ⟨⟨_, rfl, iff_no E.out⟩, below_drewN (bnext BB.out U3.out) _⟩
      subst hk4
      by_cases hp0 : xp < 0
      · have E : Hid (¬ rdataOk D) := NO.out fun h => by
          have h1 := h.2.1
          dsimp only at h1
          rcases PV.out with ⟨-, e⟩ | ⟨j, pv, -, e, e2, -⟩ <;> omega
        clear PV NO YES
        go_quiet (fail)
        go_wp2
        go_ret
        exact ⟨⟨_, rfl, iff_no E.out⟩, below_drewN (bnext BB.out U3.out) _⟩
      have g2 : decide (xp < 0) = false := by simpa using hp0
      by_cases hp1 : xz - 4 < xp
      · have E : Hid (¬ rdataOk D) := NO.out fun h => by have h1 := h.2.2; dsimp only at h1; omega
        replace hp0 : 0 ≤ xp := by omega
        clear PV NO YES
        go_quiet (fail)
        go_wp2
        go_ret
        exact ⟨⟨_, rfl, iff_no E.out⟩, below_drewN (bnext BB.out U3.out) _⟩
      have g3 : decide (xz - 4 < xp) = false := by simpa using hp1
      replace hp0 : 0 ≤ xp := by omega
      replace hp1 : xp ≤ xz - 4 := by omega
      rcases PV.out with ⟨rfl, e⟩ | ⟨j, pv, rfl, e, e2, e3, e4⟩
      · have R : Hid (drelsUpto xz lr (0 + 1)) := YES.out ⟨rfl, by dsimp only; omega, hp1⟩
        clear PV NO YES e
        go_quiet (fail)
        go_wp2
        go_roundw
        case rel => exact ⟨0 + 1, by omega, by go_num, R.out, below_drewN (bnext HB.out U3.out) _⟩
        case measure => simp [intOf]; omega
      · replace e4 := cell_any e4 (bnext BB.out U3.out)
        by_cases hp2 : xp - pv < 4
        · have E : Hid (¬ rdataOk D) := NO.out fun h => by have h1 := h.2.1; dsimp only at h1; omega
          have g4 : (0 : Int) < (j : Int) + 1 := by omega
          clear PV NO YES e
          go_quiet (fail)
          go_wp2
          go_ret
          exact ⟨⟨_, rfl, iff_no E.out⟩, below_drewN (bnext BB.out U3.out) _⟩
        · have R : Hid (drelsUpto xz lr (j + 1 + 1)) := YES.out ⟨rfl, by dsimp only; omega, hp1⟩
          have g4 : (0 : Int) < (j : Int) + 1 := by omega
          have g5 : decide (xp - pv < 4) = false := by simpa using hp2
          replace hp2 : 4 ≤ xp - pv := by omega
          clear PV NO YES e
          go_quiet (fail)
          go_wp2
          go_roundw
          case rel => exact ⟨j + 1 + 1, by omega, by go_num, R.out, below_drewN (bnext HB.out U3.out) _⟩
          case measure => simp [intOf]; omega
    · obtain rfl : k = m := by omega
      have E : Hid (rdataOk D) := HD3.out.2 HS.out
      go_wp2
      go_ret
      exact ⟨⟨_, rfl, iff_yes E.out⟩, bnext UP.out HB.out⟩
end
end Go.Proofs.YtnejpldbokodaaaDoor
