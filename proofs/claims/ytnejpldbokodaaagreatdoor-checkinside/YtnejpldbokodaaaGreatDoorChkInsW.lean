/- The statement on what leads elsewhere, walked. -/
import Derived.Test.YtnejpldbokodaaaGreatDoorChkAwakeAll
import Derived.Test.YtnejpldbokodaaaGreatDoorChkRefF
namespace Go.Proofs.YtnejpldbokodaaaGreatDoor
open Go.ChangeShapes Go.WideShapes Go.ChangeAt Go.RowKit
set_option linter.unusedVariables false
set_option linter.unusedSimpArgs false
/-- Of a right function, at each word. -/
theorem right_at {xn : ByteArray} {xb : Int} {lc : List Int} {lr : List RelM} (h : fnE ⟨xn, xb, lc, lr⟩ = 0) {k : Nat} (hk : k < lc.length) :
    okG (gF lc k) = true ∧ ((kindZ (gO (gF lc k)) = 2 ∨ kindZ (gO (gF lc k)) = 3 ∧ hasB lr k = false) → 0 ≤ (k : Int) + 1 + gI (gF lc k) ∧ (k : Int) + 1 + gI (gF lc k) < lc.length) ∧
    (kindZ (gO (gF lc k)) = 4 → hasB lr k = true ∧ gI (gF lc k) = 0) ∧ (k + 1 = lc.length → kindZ (gO (gF lc k)) = 3 ∨ kindZ (gO (gF lc k)) = 5) := by
  obtain ⟨-, h1, ⟨h2, h3⟩, h4, h5⟩ := fnE_right h
  dsimp only at *
  have hx : lc[k]? = some (gF lc k) := gF_get hk
  have hg : hasB lr k = true → ∃ r : RelM, goesB r (gO (gF lc k)) (gI (gF lc k)) = true := fun e => by
    unfold hasB at e
    rw [List.any_eq_true] at e
    obtain ⟨r, hr, hp⟩ := e
    have hp' : r.at_ = (k : Int) := by simpa using hp
    obtain ⟨i, hi, e⟩ := List.getElem_of_mem hr
    have h9 := h2 i r hi (by rw [List.getElem?_eq_getElem hi, e])
    have h10 := h9.2.2
    rw [hp', Int.toNat_natCast] at h10
    exact ⟨r, h10⟩
  have g2 : ∀ r : RelM, goesB r (gO (gF lc k)) (gI (gF lc k)) = true → gI (gF lc k) = 0 ∧ (gO (gF lc k) = 20 ∨ gO (gF lc k) = 19 ∨ gO (gF lc k) = 9 ∨ gO (gF lc k) = 10) := fun r e => by
    unfold goesB at e
    rw [decide_eq_true_iff] at e
    obtain ⟨e0, e1⟩ := e
    refine ⟨e0, ?_⟩
    rcases e1 with e1 | e1 | e1
    · rcases e1.2.1 with e | e
      · exact .inl e
      · exact .inr (.inl e)
    · exact .inr (.inr (.inl e1.2))
    · exact .inr (.inr (.inr e1.2))
  refine ⟨h1 _ (List.mem_of_getElem? hx), fun hK => ?_, fun hK => ?_, fun e => ?_⟩
  · rcases hK with hK | ⟨hK, hf⟩
    · refine h4 k _ hk hx (.inl hK) ?_
      cases hb : hasB lr k
      · rfl
      · obtain ⟨r, hr⟩ := hg hb
        rcases (g2 r hr).2 with e | e | e | e
        all_goals
          rw [e] at hK
          exact absurd hK (by decide)
    · exact h4 k _ hk hx (.inr hK) hf
  · have h20 : gO (gF lc k) = 20 := by
      unfold kindZ at hK
      split at hK
      · exact absurd hK (by decide)
      split at hK
      · exact absurd hK (by decide)
      split at hK
      · exact absurd hK (by decide)
      split at hK
      · exact absurd hK (by decide)
      split at hK
      · assumption
      · exact absurd hK (by decide)
    have hb := h3 k _ hk hx h20
    obtain ⟨r, hr⟩ := hg hb
    exact ⟨hb, (g2 r hr).1⟩
  · exact h5 _ (by rw [show lc.length - 1 = k from by omega]; exact hx)
set_option maxRecDepth 100000 in
set_option maxHeartbeats 8000000 in
theorem inside_walk (w : World) (v : Value) (f : FuncM) (h : FuncV (fun _ => True) w v f) (hT : Tab w) : Calls Tryz.prog 5 #[v] w fun e w' => e = .returned (.bool true) ∧ Below w.heap.size w w' := by
  have HV : Hid (FuncV (fun _ => True) w v f) := h
  obtain ⟨vc, vr, rfl, hc, hr, -⟩ := h
  have WB := words_bd hc
  obtain ⟨ca, cc, rfl, hcm, -, cx⟩ := LstA.open hc.1
  obtain ⟨ra, rc, rfl, hrm, -, rx⟩ := LstA.open hr
  obtain ⟨xn, xb, lc, lr⟩ := f
  dsimp only at *
  have HT : Hid (Tab w) := hT
  obtain ⟨E, eE⟩ : ∃ E, fnE ⟨xn, xb, lc, lr⟩ = E := ⟨_, rfl⟩
  obtain ⟨n, en⟩ : ∃ n, lc.length = n := ⟨_, rfl⟩
  obtain ⟨m, em⟩ : ∃ m, lr.length = m := ⟨_, rfl⟩
  have EN : Hid (lc.length = n ∧ lr.length = m ∧ fnE ⟨xn, xb, lc, lr⟩ = E) := ⟨en, em, eE⟩
  rw [en, em] at HV ⊢
  rw [en] at hcm cx
  rw [em] at hrm rx
  have HW : Hid (∀ i, 0 ≤ gF lc i ∧ gF lc i < 4294967296) := WB
  have CX : Hid (∀ k, k < n → ∃ b off, ca = some ⟨b, off, none⟩ ∧ w.cell? ⟨b, off + k, none⟩ = some (.int .u32 (gF lc k))) := fun k hk => by
    obtain ⟨b, off, x, e, -, hx, hc⟩ := cx k hk
    rw [gF_get (by omega)] at hx
    simp only [Option.some.injEq] at hx
    subst hx
    refine ⟨b, off, e, ?_⟩
    have := hc
    unfold NumAt at this
    rwa [Nat.mul_one] at this
  have RX : Hid (∀ k, k < m → ∃ b off x, ra = some ⟨b, off, none⟩ ∧ True ∧ lr[k]? = some x ∧ RelAt w b (off + k * 4) x) := rx
  unfold maxLen at hcm hrm
  have hn9 : (n : Int) ≤ 9223372036854775807 := by omega
  have hm9 : (m : Int) ≤ 9223372036854775807 := by omega
  have UP : Hid (Below w.heap.size w (w.alloc (.cells #[.string xn, .int .i64 xb, .slice ca n cc, .slice ra m rc] 25))) := keep_alloc8 (Below.refl _ _) _
  have X1 : Hid (XAt (w.alloc (.cells #[.string xn, .int .i64 xb, .slice ca n cc, .slice ra m rc] 25)) w.heap.size [.string xn, .int .i64 xb, .slice ca n cc, .slice ra m rc]) := XAt.new _ _ _
  have AW : Hid (∀ X, Below w.heap.size w X → Calls Tryz.prog 7 #[] X fun e w' => e = .returned (.bool true) ∧ Below X.heap.size X w') := fun X hX => awake10 X (HT.out.later hX)
  clear hc hr hT en em eE hcm hrm cx rx WB
  go_enter Tryz.func5, Tryz.ntmps5
  go_upto_region 1 with fail
  generalize w.alloc (.cells #[.string xn, .int .i64 xb, .slice ca n cc, .slice ra m rc] 25) = w0 at UP X1 ⊢
  have hX : Hid (w.heap.size < w0.heap.size) := X1.out.lt (by simp)
  by_cases hbig : 300 < (n : Int) ∨ 100 < (m : Int)
  · rcases (by omega : 300 < (n : Int) ∨ ((n : Int) ≤ 300 ∧ 100 < (m : Int))) with q1 | ⟨q1, q2⟩
    all_goals
      clear hbig
      go_wp2_with (first
        | (have q := K1; go_at_call 7; refine (AW.out _ (bnext UP.out K1.out)).mono ?_; rintro e w2 ⟨rfl, b2⟩; have K2 := Hid.mk0 (bnext K1.out b2))
        | (go_at_call 7; refine (AW.out _ UP.out).mono ?_; rintro e w1 ⟨rfl, b1⟩; have K1 := Hid.mk0 b1; have y2 := (X1.out.later hX.out b1).1 2 _ rfl; have y3 := (X1.out.later hX.out b1).1 3 _ rfl; clear b1))
      go_ret
      exact ⟨rfl, bnext UP.out K2.out⟩
  have q1 : (n : Int) ≤ 300 := by omega
  have q2 : (m : Int) ≤ 100 := by omega
  clear hbig
  have CD : Hid (∀ X, Below w.heap.size w X → Calls Tryz.prog 8 #[.agg #[.string xn, .int .i64 xb, .slice ca n cc, .slice ra m rc]] X fun e w' => e = .returned (.int .i64 E) ∧ Below X.heap.size X w') := fun X hX => by
    have h := fun_any (HV.out.keep (Stay.of_below hX)) (by have := EN.out.1; dsimp only; omega) (by have := EN.out.2.1; dsimp only; omega) (HT.out.later hX)
    rwa [EN.out.2.2] at h
  have RA : Hid (E = 0 → ∀ k, k < n → okG (gF lc k) = true ∧ ((kindZ (gO (gF lc k)) = 2 ∨ kindZ (gO (gF lc k)) = 3 ∧ hasB lr k = false) → 0 ≤ (k : Int) + 1 + gI (gF lc k) ∧ (k : Int) + 1 + gI (gF lc k) < n) ∧ (kindZ (gO (gF lc k)) = 4 → hasB lr k = true ∧ gI (gF lc k) = 0) ∧ (k + 1 = n → kindZ (gO (gF lc k)) = 3 ∨ kindZ (gO (gF lc k)) = 5)) := fun e k hk => by
    have h := right_at (EN.out.2.2.trans e) (k := k) (by rw [EN.out.1]; exact hk)
    rwa [EN.out.1] at h
  have NE : Hid (E = 0 → 0 < n) := fun e => by
    have h := (fnE_right (EN.out.2.2.trans e)).1.2
    rw [← EN.out.1]
    exact List.length_pos_iff.2 h
  clear HV
  by_cases hE : E = 0
  rotate_left
  · have g1 : (E != 0) = true := by simpa using hE
    clear hE RA NE
    go_wp2_with (first
        | (have q := K2; go_at_call 7; refine (AW.out _ (bnext UP.out K2.out)).mono ?_; rintro e w3 ⟨rfl, b3⟩; have K3 := Hid.mk0 (bnext K2.out b3))
        | (go_at_call 8; refine (CD.out _ (bnext UP.out K1.out)).mono ?_; rintro e w2 ⟨rfl, b2⟩; have K2 := Hid.mk0 (bnext K1.out b2))
        | (go_at_call 7; refine (AW.out _ UP.out).mono ?_; rintro e w1 ⟨rfl, b1⟩; have K1 := Hid.mk0 b1; clear y0 y1 y2 y3; have y0 := (X1.out.later hX.out b1).1 0 _ rfl; have y1 := (X1.out.later hX.out b1).1 1 _ rfl; have y2 := (X1.out.later hX.out b1).1 2 _ rfl; have y3 := (X1.out.later hX.out b1).1 3 _ rfl; clear b1)
        | (go_at_call 7; refine (AW.out _ UP.out).mono ?_; rintro e w1 ⟨rfl, b1⟩; have K1 := Hid.mk0 b1; have y0 := (X1.out.later hX.out b1).1 0 _ rfl; have y1 := (X1.out.later hX.out b1).1 1 _ rfl; have y2 := (X1.out.later hX.out b1).1 2 _ rfl; have y3 := (X1.out.later hX.out b1).1 3 _ rfl; clear b1))
    go_ret
    exact ⟨rfl, bnext UP.out K3.out⟩
  subst hE
  replace RA := Hid.mk0 (RA.out rfl)
  have hn0 : 0 < n := NE.out rfl
  clear NE
  go_upto_region 3 with (first
        | (go_at_call 8; refine (CD.out _ (bnext UP.out K1.out)).mono ?_; rintro e w2 ⟨rfl, b2⟩; have K2 := Hid.mk0 (bnext K1.out b2))
        | (go_at_call 7; refine (AW.out _ UP.out).mono ?_; rintro e w1 ⟨rfl, b1⟩; have K1 := Hid.mk0 b1; have y0 := (X1.out.later hX.out b1).1 0 _ rfl; have y1 := (X1.out.later hX.out b1).1 1 _ rfl; have y2 := (X1.out.later hX.out b1).1 2 _ rfl; have y3 := (X1.out.later hX.out b1).1 3 _ rfl; clear b1))
  clear y0 y1 y2 y3 K1 b2 CD AW
  go_wp2
  go_loopw [3] (fun i wr => ∃ k : Nat, k ≤ n ∧ i = .int .i64 k ∧ Below w2.heap.size w2 wr) (fun i _ => n - (intOf i).toNat)
  case atStart => exact ⟨0, Nat.zero_le _, rfl, Below.refl _ _⟩
  case round =>
    obtain ⟨k, hk, rfl, hbel⟩ := hrel
    have HB : Hid (Below w2.heap.size w2 wr) := hbel
    have B0 : Hid (Below w0.heap.size w0 wr) := bnext K2.out HB.out
    have BB : Hid (Below w.heap.size w wr) := bnext UP.out B0.out
    have y2 := (X1.out.later hX.out B0.out).1 2 _ rfl
    clear hbel
    by_cases hlt : k < n
    · have hlt' : (k : Int) < n := by omega
      obtain ⟨hok, p1, p2, p3⟩ := RA.out k hlt
      obtain ⟨b, off, rfl, hcell⟩ := CX.out k hlt
      replace hcell := cell_any hcell BB.out
      have GT : Hid (∀ W, Calls Tryz.prog 13 #[.int .u32 (gF lc k)] W fun e w' => e = .returned (.tuple #[.agg #[.int .i64 (gO (gF lc k)), .int .i64 (gA (gF lc k)), .int .i64 (gB (gF lc k)), .int .i64 (gC (gF lc k)), .int .i64 (gI (gF lc k))], .bool true]) ∧ Below W.heap.size W w') := fun W => by
        have h := rget_all (gF lc k) W (HW.out k).1 (HW.out k).2
        unfold rgetV at h
        rw [if_pos hok] at h
        exact h
      have KK : Hid (∀ W, Calls Tryz.prog 14 #[.agg #[.int .i64 (gO (gF lc k)), .int .i64 (gA (gF lc k)), .int .i64 (gB (gF lc k)), .int .i64 (gC (gF lc k)), .int .i64 (gI (gF lc k))]] W fun e w' => e = .returned (.int .i64 (kindZ (gO (gF lc k)))) ∧ Below W.heap.size W w') := fun W => rkind_any _ _ _ _ _ W (gO_bd hok).1 (gO_bd hok).2
      have ib := gI_bd (gF lc k)
      have P1 := Hid.mk0 p1
      have P2 := Hid.mk0 p2
      have P3 := Hid.mk0 p3
      clear p1 p2 p3 hok
      generalize kindZ (gO (gF lc k)) = K at KK P1 P2 P3
      generalize gO (gF lc k) = vO at GT KK
      generalize gA (gF lc k) = vA at GT KK
      generalize gB (gF lc k) = vB at GT KK
      generalize gC (gF lc k) = vC at GT KK
      generalize gI (gF lc k) = vI at GT KK ib P1 P2
      go_upto_region 7 with (go_at_call 13; refine (GT.out _).mono ?_; rintro e w3 ⟨rfl, b3⟩)
      have X4 : Hid (XAt (w3.alloc (.cells #[.int .i64 vO, .int .i64 vA, .int .i64 vB, .int .i64 vC, .int .i64 vI] 38)) w3.heap.size [.int .i64 vO, .int .i64 vA, .int .i64 vB, .int .i64 vC, .int .i64 vI]) := XAt.new _ _ _
      have U4 : Hid (Below w2.heap.size w2 (w3.alloc (.cells #[.int .i64 vO, .int .i64 vA, .int .i64 vB, .int .i64 vC, .int .i64 vI] 38))) := bnext HB.out (keep_alloc8 b3 _)
      generalize w3.alloc (.cells #[.int .i64 vO, .int .i64 vA, .int .i64 vB, .int .i64 vC, .int .i64 vI] 38) = w4 at X4 U4 ⊢
      have hX4 : Hid (w3.heap.size < w4.heap.size) := X4.out.lt (by simp)
      clear hcell b3 y2 GT
      go_wp2
      go_loopw [6, 7] (fun bb i wr => ∃ j : Nat, j ≤ m ∧ bb = .bool (hasB (lr.take j) k) ∧ i = .int .i64 j ∧ Below w4.heap.size w4 wr) (fun _ i _ => m - (intOf i).toNat)
      case atStart => exact ⟨0, Nat.zero_le _, rfl, rfl, Below.refl _ _⟩
      case round =>
        clear HB B0 BB
        obtain ⟨j, hj, rfl, rfl, hbel⟩ := hrel
        have HB : Hid (Below w4.heap.size w4 wr) := hbel
        have B2 : Hid (Below w2.heap.size w2 wr) := bnext U4.out HB.out
        have B0 : Hid (Below w0.heap.size w0 wr) := bnext K2.out B2.out
        have BB : Hid (Below w.heap.size w wr) := bnext UP.out B0.out
        have y3 := (X1.out.later hX.out B0.out).1 3 _ rfl
        clear hbel
        by_cases hjm : j < m
        · have hjm' : (j : Int) < m := by omega
          obtain ⟨q, o, ⟨xp, xk, xm, xd⟩, rfl, -, hx, x0, -⟩ := RX.out j hjm
          dsimp only at x0
          have TK : Hid (hasB (lr.take (j + 1)) k = (hasB (lr.take j) k || decide (xp = (k : Int)))) := has_take hx
          replace x0 := cell_any x0 BB.out
          clear hx
          generalize hasB (lr.take j) k = h0 at TK
          cases h0
          · go_wp2
            go_roundw
            case rel => exact ⟨j + 1, by omega, by rw [TK.out]; simp; rfl, by go_num, HB.out⟩
            case measure => simp [intOf]; omega
          · go_wp2
            go_roundw
            case rel => exact ⟨j + 1, by omega, by rw [TK.out]; simp, by go_num, HB.out⟩
            case measure => simp [intOf]; omega
        · obtain rfl : j = m := by omega
          have eh : Hid (hasB (lr.take j) k = hasB lr k) := by unfold Hid; rw [← EN.out.2.1, List.take_length]
          rw [eh.out]
          have y2 := (X1.out.later hX.out B0.out).1 2 _ rfl
          have z0 := (X4.out.later hX4.out HB.out).1 0 _ rfl
          have z1 := (X4.out.later hX4.out HB.out).1 1 _ rfl
          have z2 := (X4.out.later hX4.out HB.out).1 2 _ rfl
          have z3 := (X4.out.later hX4.out HB.out).1 3 _ rfl
          have z4 := (X4.out.later hX4.out HB.out).1 4 _ rfl
          generalize hasB lr k = hb at P1 P2 ⊢
          clear eh
          go_upto_region 15 with (go_at_call 14; refine (KK.out _).mono ?_; rintro e w5 ⟨rfl, b5⟩)
          have U5 : Hid (Below w2.heap.size w2 w5) := bnext B2.out b5
          replace z4 := cell_any z4 b5
          replace y2 := cell_any y2 b5
          clear z0 z1 z2 z3 b5 KK y3
          go_cut [95] from 67 to 94 (fun z wx => z = .bool false ∧ wx = w5)
          case first =>
            by_cases c : K = 2 ∨ K = 3 ∧ hb = false
            · obtain ⟨s1, s2⟩ := P1.out c
              have g1 : decide ((k : Int) + 1 + vI < 0) = false := by simp; omega
              have g2 : decide ((n : Int) ≤ (k : Int) + 1 + vI) = false := by simp; omega
              clear P1 P2 P3
              rcases c with rfl | ⟨rfl, rfl⟩
              all_goals
                go_wp2
                go_meet
                exact ⟨rfl, rfl⟩
            · have g1 : (K == 2) = false := by simp; omega
              by_cases c3 : K = 3
              · subst c3
                have : hb = true := by
                  cases hb
                  · exact absurd (.inr ⟨rfl, rfl⟩) c
                  · rfl
                subst this
                clear P1 P2 P3 c
                go_wp2
                go_meet
                exact ⟨rfl, rfl⟩
              · have g2 : (K == 3) = false := by simpa using c3
                clear P1 P2 P3 c c3
                go_wp2
                go_meet
                exact ⟨rfl, rfl⟩
          obtain ⟨rfl, hwc⟩ := hcut
          obtain rfl := hwc.symm
          go_upto_region 17 with fail
          go_cut [122] from 96 to 121 (fun z wx => z = .bool false ∧ wx = w5)
          case first =>
            by_cases c4 : K = 4
            · subst c4
              obtain ⟨rfl, rfl⟩ := P2.out rfl
              have g1 : ((k : Int) + 1 == n) = false := by
                have : ¬ ((k : Int) + 1 = n) := fun e => by
                  rcases P3.out (by omega) with h | h <;> exact absurd h (by decide)
                simpa using this
              clear P1 P2 P3
              go_wp2
              go_meet
              exact ⟨rfl, rfl⟩
            have g4 : (K == 4) = false := by simpa using c4
            by_cases cn : (k : Int) + 1 = n
            · have g1 : ((k : Int) + 1 == n) = true := by simpa using cn
              rcases P3.out (by omega) with rfl | rfl
              all_goals
                clear P1 P2 P3 c4 cn
                go_wp2
                go_meet
                exact ⟨rfl, rfl⟩
            · have g1 : ((k : Int) + 1 == n) = false := by simpa using cn
              clear P1 P2 P3 c4 cn
              go_wp2
              go_meet
              exact ⟨rfl, rfl⟩
          obtain ⟨rfl, hwc⟩ := hcut
          obtain rfl := hwc.symm
          clear y2 z4 P1 P2 P3 ib
          go_wp2
          go_roundw
          case rel => exact ⟨k + 1, by omega, by go_num, U5.out⟩
          case measure => simp [intOf]; omega
    · obtain rfl : k = n := by omega
      have hn0' : (0 : Int) < k := by omega
      go_wp2
      go_ret
      exact ⟨rfl, BB.out⟩
end Go.Proofs.YtnejpldbokodaaaGreatDoor
