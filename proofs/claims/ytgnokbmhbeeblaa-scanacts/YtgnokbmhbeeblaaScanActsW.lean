/- The walk over acts. -/
import Derived.Test.YtgnokbmhbeeblaaScanActsT
namespace Go.Proofs.Ytgnokbmhbeeblaa
open Go.ChangeShapes Go.WideShapes Go.ChangeAt Go.RowKit
set_option linter.unusedVariables false
set_option linter.unusedSimpArgs false
theorem Acts.later {w w' : World} {a : Option Addr} {n : Nat} {D X : Nat → Int} (h : Acts w a n D X) (hb : Below w.heap.size w w') : Acts w' a n D X :=
  h.imp id fun ⟨b, off, e, hc⟩ => ⟨b, off, e, fun i hi => ⟨cell_later' (hc i hi).1 hb, cell_later' (hc i hi).2 hb⟩⟩
set_option maxRecDepth 100000 in
set_option maxHeartbeats 4000000 in
theorem acts_walk (w : World) (ba : Option Addr) (n bc : Nat) (f : Nat → Int) (hbh : Head ba n bc) (hbB : Bytes w ba n f) (la : Option Addr) (ln lc : Nat) (D X : Nat → Int) (hlh : Head la ln lc) (hA : Acts w la ln D X) (hm : n ≤ 9223372036854775807) (hm2 : ln ≤ 9223372036854775807)
    (hba : n ≠ 0 → ∀ x, ba = some x → x.block < w.heap.size) (hla : ln ≠ 0 → ∀ x, la = some x → x.block < w.heap.size) :
    Calls Try.prog 3 #[.slice ba n bc, .slice la ln lc] w fun e w' => e = .returned (.bool true) ∧ Below w.heap.size w w' := by
  have AW : Hid (∀ W, Calls Try.prog 8 #[] W fun e w' => e = .returned (.bool true) ∧ Below W.heap.size W w') := awake_true
  have HBB : Hid (Bytes w ba n f) := hbB
  have HA : Hid (Acts w la ln D X) := hA
  have HBA : Hid (n ≠ 0 → ∀ x, ba = some x → x.block < w.heap.size) := hba
  have HLA : Hid (ln ≠ 0 → ∀ x, la = some x → x.block < w.heap.size) := hla
  clear hbB hA hba hla
  have hmk := makes
  go_enter Try.func3, Try.ntmps3
  go_upto_region 1 with fail
  have B0 : Hid (Below w.heap.size w ((w.alloc (.cells #[.slice ba n bc] 22)).alloc (.cells #[.slice la ln lc] 23))) := ((Below.refl _ w).alloc (Nat.le_refl _) _).alloc (by simp) _
  have x0 : ((w.alloc (.cells #[.slice ba n bc] 22)).alloc (.cells #[.slice la ln lc] 23)).cell? ⟨w.heap.size, 0, none⟩ = some (.slice ba n bc) := cell_later' (new_cell' w _ _ 0 _ rfl) ((Below.refl _ _).alloc (Nat.le_refl _) _)
  have x1 : ((w.alloc (.cells #[.slice ba n bc] 22)).alloc (.cells #[.slice la ln lc] 23)).cell? ⟨w.heap.size + 1, 0, none⟩ = some (.slice la ln lc) := by
    have h := new_cell' (w.alloc (.cells #[.slice ba n bc] 22)) #[.slice la ln lc] 23 0 _ rfl
    rwa [show (w.alloc (.cells #[.slice ba n bc] 22)).heap.size = w.heap.size + 1 from by simp] at h
  generalize (w.alloc (.cells #[.slice ba n bc] 22)).alloc (.cells #[.slice la ln lc] 23) = w0 at B0 x0 x1 ⊢
  rcases (by omega : 300 < (n : Int) ∨ (n : Int) ≤ 300 ∧ 60 < (ln : Int) ∨ (n : Int) ≤ 300 ∧ (ln : Int) ≤ 60) with h1 | ⟨h1, h2⟩ | ⟨h1, h2⟩
  · go_wp2_with (first
      | (go_at_call 8; refine (AW.out w0).mono ?_; rintro e w1 ⟨rfl, b1⟩; have y0 := cell_later' x0 b1; have y1 := cell_later' x1 b1)
      | (go_at_call 8; refine (AW.out _).mono ?_; rintro e w2 ⟨rfl, b2⟩))
    go_ret
    exact ⟨rfl, bnext B0.out (bnext b1 b2)⟩
  · go_wp2_with (first
      | (go_at_call 8; refine (AW.out w0).mono ?_; rintro e w1 ⟨rfl, b1⟩; have y0 := cell_later' x0 b1; have y1 := cell_later' x1 b1)
      | (go_at_call 8; refine (AW.out _).mono ?_; rintro e w2 ⟨rfl, b2⟩))
    go_ret
    exact ⟨rfl, bnext B0.out (bnext b1 b2)⟩
  go_upto_region 3 with (go_at_call 8; refine (AW.out w0).mono ?_; rintro e w1 ⟨rfl, b1⟩; have y0 := cell_later' x0 b1; have y1 := cell_later' x1 b1)
  have B1 : Hid (Below w.heap.size w w1) := bnext B0.out b1
  have hL1 : Hid (w.heap.size + 1 < w1.heap.size) := World.block_lt_of_cell? w1 ⟨w.heap.size + 1, 0, none⟩ y1
  have Y0 : Hid (w1.cell? ⟨w.heap.size, 0, none⟩ = some (.slice ba n bc)) := y0
  have Y1 : Hid (w1.cell? ⟨w.heap.size + 1, 0, none⟩ = some (.slice la ln lc)) := y1
  clear B0 x0 x1 b1 w0
  go_upto_region 4 with fail
  go_loop [5] (fun i => ∃ j : Nat, j ≤ ln ∧ i = .int .i64 j ∧ ∀ k, k < j → 0 ≤ X k ∧ X k ≤ 65535) (fun i => ln - (intOf i).toNat)
  case atStart => exact ⟨0, Nat.zero_le _, rfl, fun k hk => by omega⟩
  case round =>
    obtain ⟨j, hj, rfl, hx⟩ := hrel
    have HX : Hid (∀ k, k < j → 0 ≤ X k ∧ X k ≤ 65535) := hx
    clear hx
    by_cases hlt : j < ln
    · have hlt' : (j : Int) < ln := by omega
      have hj0 : (0 : Int) ≤ j := by omega
      obtain h0 | ⟨ab, ao, rfl, hac⟩ := HA.out.later B1.out
      · omega
      obtain ⟨ca, cx⟩ := hac j hlt
      clear hac
      rcases (by omega : X j < 0 ∨ 0 ≤ X j ∧ 65535 < X j ∨ 0 ≤ X j ∧ X j ≤ 65535) with hq | ⟨hq, hq2⟩ | ⟨hq, hq2⟩
      · go_wp2
        go_ret
        exact ⟨rfl, B1.out⟩
      · go_wp2
        go_ret
        exact ⟨rfl, B1.out⟩
      · go_wp2
        go_round
        case rel =>
          refine ⟨j + 1, by omega, by go_num, fun k hk => ?_⟩
          rcases (by omega : k < j ∨ k = j) with h | rfl
          · exact HX.out k h
          · exact ⟨hq, hq2⟩
        case measure => simp [intOf]; omega
    · obtain rfl : ln = j := by omega
      go_upto_region 11 with fail
      have U2 : Hid ((w1.alloc (.cells #[.int .i64 (ln : Int)] 3)).cell? ⟨w1.heap.size, 0, none⟩ = some (.int .i64 (ln : Int))) := new_cell' w1 _ _ 0 _ rfl
      have V2 : Hid ((w1.alloc (.cells #[.int .i64 (ln : Int)] 3)).frozen? ⟨w1.heap.size, 0, none⟩ = false) := by show _ = _; simp [go_sem]
      have B2 : Hid (Below w1.heap.size w1 (w1.alloc (.cells #[.int .i64 (ln : Int)] 3))) := (Below.refl _ _).alloc (Nat.le_refl _) _
      have E2 : Hid (w1.heap.size < (w1.alloc (.cells #[.int .i64 (ln : Int)] 3)).heap.size) := by show _ < _; simp
      generalize w1.alloc (.cells #[.int .i64 (ln : Int)] 3) = w2 at U2 V2 B2 E2 ⊢
      clear y0 y1
      go_upto_region 12 with fail
      go_loopw [6, 7, 9] (fun at_ want i wr => ∃ (j : Nat) (u : Nat) (wt p : Int), i = .int .i64 j ∧ want = .int .i64 wt ∧ at_ = .int .i64 p ∧ j ≤ ln ∧ Below w1.heap.size w1 wr ∧ w1.heap.size < wr.heap.size ∧ wr.cell? ⟨w1.heap.size, 0, none⟩ = some (.int .i64 u) ∧ wr.frozen? ⟨w1.heap.size, 0, none⟩ = false ∧
        ((wt = 0 ∧ p = posA n f D X j ∧ (u = j ∨ j = 0 ∧ u = ln) ∧ ∀ k, k < j → errA n f D X k = 0) ∨ (wt ≠ 0 ∧ wt = errA n f D X u ∧ u < ln ∧ j = u + 1 ∧ ∀ k, k < u → errA n f D X k = 0))) (fun _ _ i _ => ln - (intOf i).toNat)
      case atStart => exact ⟨0, ln, 0, 0, rfl, rfl, rfl, Nat.zero_le _, B2.out, E2.out, U2.out, V2.out, .inl ⟨rfl, rfl, .inr ⟨rfl, rfl⟩, fun k hk => by omega⟩⟩
      case round =>
        obtain ⟨j, u, wt, p, rfl, rfl, rfl, hj, hBR, hGL, hUC, hUZ, hkind⟩ := hrel
        have BR : Hid (Below w1.heap.size w1 wr) := hBR
        have GL : Hid (w1.heap.size < wr.heap.size) := hGL
        have UC' : Hid (wr.cell? ⟨w1.heap.size, 0, none⟩ = some (.int .i64 u)) := hUC
        have UZ : Hid (wr.frozen? ⟨w1.heap.size, 0, none⟩ = false) := hUZ
        clear hBR hGL hUC hUZ U2 V2 B2 E2
        have z0 : wr.cell? ⟨w.heap.size, 0, none⟩ = some (.slice ba n bc) := cell_low Y0.out BR.out (by have := hL1.out; omega)
        have z1 : wr.cell? ⟨w.heap.size + 1, 0, none⟩ = some (.slice la ln lc) := cell_low Y1.out BR.out (by have := hL1.out; omega)
        rcases hkind with ⟨rfl, rfl, hu, hgd⟩ | ⟨hw0, hwe, hul, hju, hgd⟩
        · have GD : Hid (∀ k, k < j → errA n f D X k = 0) := hgd
          clear hgd
          by_cases hlt : j < ln
          · obtain h0 | ⟨ab, ao, rfl, hac⟩ := (HA.out.later B1.out).later BR.out
            · omega
            obtain ⟨ca, cx⟩ := hac j hlt
            clear hac
            have hx := HX.out j hlt
            have hlt' : (j : Int) < ln := by omega
            have hj0 : (0 : Int) ≤ j := by omega
            have hpn := pos_le (n := n) (f := f) (D := D) (X := X) j
            obtain ⟨p, ep⟩ : ∃ p, posA n f D X j = p := ⟨_, rfl⟩
            have EP : Hid (posA n f D X j = p) := ep
            rw [ep] at hpn ⊢
            clear ep
            have hp' : (p : Int) ≤ n := by omega
            have hp0 : (0 : Int) ≤ p := by omega
            have HBW : Hid (∀ W', Below wr.heap.size wr W' → Bytes W' (fromA ba bc p) (n - p) (fun i => f (i + p))) := fun W' hW => fromA_bytes (((HBB.out.later B1.out).later BR.out).later hW) hbh hpn
            have ST : Hid (∀ W', Below wr.heap.size wr W' → Calls Try.prog 9 #[.slice (fromA ba bc p) (n - p) (bc - p), .agg #[.int .i64 (D j), .int .i64 (X j)]] W' fun e w' => e = .returned (.tuple #[.int .i64 (takeZ (n - p) (fun i => f (i + p)) (D j) (X j)), .int .i64 (errZ (n - p) (fun i => f (i + p)) (D j) (X j))]) ∧ Below W'.heap.size W' w') := fun W' hW => rstep_any W' (fromA ba bc p) (n - p) (bc - p) (fun i => f (i + p)) (D j) (X j) (by omega) (fromA_head hbh hpn) (HBW.out W' hW) hx
            have EA : Hid (errA n f D X j = errZ (n - p) (fun i => f (i + p)) (D j) (X j)) := by show _ = _; unfold errA; rw [EP.out]
            have PS : Hid (posA n f D X (j + 1) = p + (takeZ (n - p) (fun i => f (i + p)) (D j) (X j)).toNat) := by show _ + _ = _; rw [EP.out]
            have KS : Hid (∀ W' : World, Below wr.heap.size wr W' → (fun W' => W'.cell? ⟨w.heap.size, 0, none⟩ = some (.slice ba n bc) ∧ W'.cell? ⟨w.heap.size + 1, 0, none⟩ = some (.slice (some ⟨ab, ao, none⟩) ln lc) ∧ W'.cell? ⟨ab, ao + j * 2, none⟩ = some (.int .i64 (D j)) ∧ W'.cell? ⟨ab, ao + j * 2 + 1, none⟩ = some (.int .i64 (X j)) ∧ (Instr.slice 22 (.slice ba n bc) (some (.int .i64 (p : Int))) none none).run Try.prog W' = .ok (.slice (fromA ba bc p) (n - p) (bc - p)) W') W') := fun W' hW => ⟨cell_later' z0 hW, cell_later' z1 hW, cell_later' ca hW, cell_later' cx hW, slice_rest W' ba n bc p hpn hbh.1⟩
            have TB : Hid (errZ (n - p) (fun i => f (i + p)) (D j) (X j) = 0 → 0 ≤ takeZ (n - p) (fun i => f (i + p)) (D j) (X j) ∧ takeZ (n - p) (fun i => f (i + p)) (D j) (X j) ≤ n - p) := fun h => by
              have h2 := err_cut h
              have h3 := want_bd (f := fun i => f (i + p)) (fun i => HBB.out.1 _) (D j) (X j) hx
              rw [take_ok h]
              omega
            obtain ⟨T, eT⟩ : ∃ T, takeZ (n - p) (fun i => f (i + p)) (D j) (X j) = T := ⟨_, rfl⟩
            obtain ⟨E, eE⟩ : ∃ E, errZ (n - p) (fun i => f (i + p)) (D j) (X j) = E := ⟨_, rfl⟩
            rw [eT, eE] at ST TB
            rw [eE] at EA
            rw [eT] at PS
            clear eT eE
            by_cases hE : E = 0
            · obtain ⟨hT0, hT1⟩ := TB.out hE
              obtain ⟨q, rfl⟩ := Int.eq_ofNat_of_zero_le hT0
              subst hE
              have hpq : (p : Int) + q ≤ n := by omega
              have hq0 : (0 : Int) ≤ q := hT0
              clear TB hx hT1
              go_upto_region 14 with fail
              clear z0 z1 ca cx
              go_region_held3 (fun W' => W'.cell? ⟨w.heap.size, 0, none⟩ = some (.slice ba n bc) ∧ W'.cell? ⟨w.heap.size + 1, 0, none⟩ = some (.slice (some ⟨ab, ao, none⟩) ln lc) ∧ W'.cell? ⟨ab, ao + j * 2, none⟩ = some (.int .i64 (D j)) ∧ W'.cell? ⟨ab, ao + j * 2 + 1, none⟩ = some (.int .i64 (X j)) ∧ (Instr.slice 22 (.slice ba n bc) (some (.int .i64 (p : Int))) none none).run Try.prog W' = .ok (.slice (fromA ba bc p) (n - p) (bc - p)) W')
                (first
                | exact KS.out _ (Below.refl _ _)
                | exact KS.out _ (Below.refl _ _).drew
                | exact KS.out _ hbE)
                (first
                | (go_at_call 9; refine (ST.out _ (by first | exact Below.refl _ _ | exact (Below.refl _ _).drew)).mono ?_; rintro e w7 ⟨rfl, hb7⟩; have hbE : Below wr.heap.size wr w7 := (by first | exact hb7 | exact (Below.refl _ _).drew.trans hb7)))
              all_goals
                have u7 := cell_later' UC'.out hbE
                have v7 : w7.frozen? ⟨w1.heap.size, 0, none⟩ = false := frozen_low UZ.out hbE GL.out
                have BE : Hid (Below wr.heap.size wr w7) := hbE
                clear ST KS hbE hb7
                go_wp2_with fail
                go_roundw
                case rel =>
                  refine ⟨j + 1, j + 1, 0, (posA n f D X (j + 1) : Nat), by go_num, rfl, by rw [PS.out, Int.toNat_natCast]; go_num, by omega, ((BR.out.trans (BE.out.mono BR.out.size)).setCell (p := ⟨w1.heap.size, 0, none⟩) (Nat.le_refl _) _).setCell (p := ⟨w1.heap.size, 0, none⟩) (Nat.le_refl _) _, by have := GL.out; have := BE.out.size; simp; omega, ?_, by simpa using v7, .inl ⟨rfl, rfl, .inl rfl, fun k hk => ?_⟩⟩
                  · rw [World.cell?_setCell_same _ _ _ (World.cell?_setCell_same _ _ _ u7)]; go_num
                  · rcases (by omega : k < j ∨ k = j) with h | rfl
                    · exact GD.out k h
                    · exact EA.out
                case measure => simp [intOf]; omega
            · have hE' : (E == 0) = false := by simpa using hE
              have HE : Hid (E ≠ 0) := hE
              clear TB hx hE
              go_upto_region 14 with fail
              clear z0 z1 ca cx
              go_region_held3 (fun W' => W'.cell? ⟨w.heap.size, 0, none⟩ = some (.slice ba n bc) ∧ W'.cell? ⟨w.heap.size + 1, 0, none⟩ = some (.slice (some ⟨ab, ao, none⟩) ln lc) ∧ W'.cell? ⟨ab, ao + j * 2, none⟩ = some (.int .i64 (D j)) ∧ W'.cell? ⟨ab, ao + j * 2 + 1, none⟩ = some (.int .i64 (X j)) ∧ (Instr.slice 22 (.slice ba n bc) (some (.int .i64 (p : Int))) none none).run Try.prog W' = .ok (.slice (fromA ba bc p) (n - p) (bc - p)) W')
                (first
                | exact KS.out _ (Below.refl _ _)
                | exact KS.out _ (Below.refl _ _).drew
                | exact KS.out _ hbE)
                (first
                | (go_at_call 9; refine (ST.out _ (by first | exact Below.refl _ _ | exact (Below.refl _ _).drew)).mono ?_; rintro e w7 ⟨rfl, hb7⟩; have hbE : Below wr.heap.size wr w7 := (by first | exact hb7 | exact (Below.refl _ _).drew.trans hb7)))
              all_goals
                have u7 := cell_later' UC'.out hbE
                have v7 : w7.frozen? ⟨w1.heap.size, 0, none⟩ = false := frozen_low UZ.out hbE GL.out
                have BE : Hid (Below wr.heap.size wr w7) := hbE
                clear ST KS hbE hb7
                go_wp2_with fail
                go_roundw
                case rel =>
                  refine ⟨j + 1, j, E, p, by go_num, rfl, rfl, by omega, (BR.out.trans (BE.out.mono BR.out.size)).setCell (p := ⟨w1.heap.size, 0, none⟩) (Nat.le_refl _) _, by have := GL.out; have := BE.out.size; simp; omega, World.cell?_setCell_same _ _ _ u7, by simpa using v7, .inr ⟨HE.out, EA.out.symm, hlt, rfl, GD.out⟩⟩
                case measure => simp [intOf]; omega
          · obtain rfl : ln = j := by omega
            obtain ⟨up, hup0⟩ : ∃ up, up = ln := ⟨_, rfl⟩
            have hup : up ≤ ln := by omega
            have hu' : u = up := by omega
            have UC : Hid (wr.cell? ⟨w1.heap.size, 0, none⟩ = some (.int .i64 up)) := by rw [← hu']; exact UC'.out
            have UG : Hid (∀ k, k < up → errA n f D X k = 0) := by rw [hup0]; exact GD.out
            have UB : Hid (up < ln → errA n f D X up ≠ 0) := fun h => by omega
            have UP : Hid (up = ln) := hup0
            have hpn := pos_le (n := n) (f := f) (D := D) (X := X) ln
            obtain ⟨p, ep⟩ : ∃ p, posA n f D X ln = p := ⟨_, rfl⟩
            have EP : Hid (posA n f D X ln = p) := ep
            rw [ep] at hpn ⊢
            clear ep hup0 hu' hu UC' GD
            rcases (by omega : p < n ∨ p = n) with hp | rfl
            · have hp' : (p : Int) < n := by omega
              have EW : Hid (endZ n f D X ln up = 2) := by show _ = _; unfold endZ; rw [if_pos UP.out, EP.out, if_neg (by omega)]
              go_upto_region 23 with fail
              have C3 : Hid ((wr.alloc (.cells #[.bool true] 4)).cell? ⟨wr.heap.size, 0, none⟩ = some (.bool true)) := new_cell' wr _ _ 0 _ rfl
              have Z3 : Hid ((wr.alloc (.cells #[.bool true] 4)).frozen? ⟨wr.heap.size, 0, none⟩ = false) := by show _ = _; simp [go_sem]
              have B3 : Hid (Below wr.heap.size wr (wr.alloc (.cells #[.bool true] 4))) := (Below.refl _ _).alloc (Nat.le_refl _) _
              have E3 : Hid (wr.heap.size < (wr.alloc (.cells #[.bool true] 4)).heap.size) := by show _ < _; simp
              generalize wr.alloc (.cells #[.bool true] 4) = w3 at C3 Z3 B3 E3 ⊢
              have d0 : w3.cell? ⟨w.heap.size, 0, none⟩ = some (.slice ba n bc) := cell_later' (cell_low Y0.out BR.out (by have := hL1.out; omega)) B3.out
              have TR : Hid (Calls Try.prog 10 #[.slice ba n bc, .func (.func 11) #[] #[.pointer (some ⟨w.heap.size + 1, 0, none⟩), .pointer (some ⟨w1.heap.size, 0, none⟩), .pointer (some ⟨w.heap.size, 0, none⟩), .pointer (some ⟨wr.heap.size, 0, none⟩)]] w3 fun e w' => e = .returned (.int .i64 (endZ n f D X ln up)) ∧ w'.cell? ⟨wr.heap.size, 0, none⟩ = some (.bool true) ∧ w3.grownBy w' (some wr.heap.size)) := by
                have hs := B3.out.size
                have hs1 := BR.out.size
                have hs2 := hL1.out
                have hs3 := E3.out
                have hs4 := GL.out
                have hs5 := B1.out.size
                refine acts_try w3 n f (by omega) _ _ _ _ ⟨by omega, by omega, by omega, by omega⟩ ⟨by omega, by omega, by omega⟩ la ln lc D X (cell_later' (cell_low Y1.out BR.out (by omega)) B3.out) hlh (((HA.out.later B1.out).later (BR.out)).later B3.out) (fun h0 x e => ⟨by have := HLA.out h0 x e; omega, by have := HLA.out h0 x e; omega⟩) HX.out up (cell_later' UC.out B3.out) hup ba bc d0 hbh (((HBB.out.later B1.out).later BR.out).later B3.out) (fun h0 x e => ⟨by have := HBA.out h0 x e; omega, by have := HBA.out h0 x e; omega⟩) C3.out Z3.out UG.out UB.out (by omega)
              go_wp2_with (go_at_call 10; refine TR.out.mono ?_; rintro e w4 ⟨rfl, c4, g4⟩)
              go_ret
              refine ⟨ret_bool (by rw [EW.out]; simp), ?_⟩
              have h5 : Below w.heap.size w w3 := bnext (bnext B1.out BR.out) B3.out
              exact h5.grown g4 h5.size (fun k hk => by simp only [Option.some.injEq] at hk; have h6 := BR.out.size; have h7 := B1.out.size; omega)
            · have EW : Hid (endZ p f D X ln up = 0) := by show _ = _; unfold endZ; rw [if_pos UP.out, EP.out, if_pos (by omega)]
              go_upto_region 23 with fail
              have C3 : Hid ((wr.alloc (.cells #[.bool true] 4)).cell? ⟨wr.heap.size, 0, none⟩ = some (.bool true)) := new_cell' wr _ _ 0 _ rfl
              have Z3 : Hid ((wr.alloc (.cells #[.bool true] 4)).frozen? ⟨wr.heap.size, 0, none⟩ = false) := by show _ = _; simp [go_sem]
              have B3 : Hid (Below wr.heap.size wr (wr.alloc (.cells #[.bool true] 4))) := (Below.refl _ _).alloc (Nat.le_refl _) _
              have E3 : Hid (wr.heap.size < (wr.alloc (.cells #[.bool true] 4)).heap.size) := by show _ < _; simp
              generalize wr.alloc (.cells #[.bool true] 4) = w3 at C3 Z3 B3 E3 ⊢
              have d0 : w3.cell? ⟨w.heap.size, 0, none⟩ = some (.slice ba p bc) := cell_later' (cell_low Y0.out BR.out (by have := hL1.out; omega)) B3.out
              have TR : Hid (Calls Try.prog 10 #[.slice ba p bc, .func (.func 11) #[] #[.pointer (some ⟨w.heap.size + 1, 0, none⟩), .pointer (some ⟨w1.heap.size, 0, none⟩), .pointer (some ⟨w.heap.size, 0, none⟩), .pointer (some ⟨wr.heap.size, 0, none⟩)]] w3 fun e w' => e = .returned (.int .i64 (endZ p f D X ln up)) ∧ w'.cell? ⟨wr.heap.size, 0, none⟩ = some (.bool true) ∧ w3.grownBy w' (some wr.heap.size)) := by
                have hs := B3.out.size
                have hs1 := BR.out.size
                have hs2 := hL1.out
                have hs3 := E3.out
                have hs4 := GL.out
                have hs5 := B1.out.size
                refine acts_try w3 p f (by omega) _ _ _ _ ⟨by omega, by omega, by omega, by omega⟩ ⟨by omega, by omega, by omega⟩ la ln lc D X (cell_later' (cell_low Y1.out BR.out (by omega)) B3.out) hlh (((HA.out.later B1.out).later (BR.out)).later B3.out) (fun h0 x e => ⟨by have := HLA.out h0 x e; omega, by have := HLA.out h0 x e; omega⟩) HX.out up (cell_later' UC.out B3.out) hup ba bc d0 hbh (((HBB.out.later B1.out).later BR.out).later B3.out) (fun h0 x e => ⟨by have := HBA.out h0 x e; omega, by have := HBA.out h0 x e; omega⟩) C3.out Z3.out UG.out UB.out (by omega)
              go_wp2_with (go_at_call 10; refine TR.out.mono ?_; rintro e w4 ⟨rfl, c4, g4⟩)
              go_ret
              refine ⟨ret_bool (by rw [EW.out]; simp), ?_⟩
              have h5 : Below w.heap.size w w3 := bnext (bnext B1.out BR.out) B3.out
              exact h5.grown g4 h5.size (fun k hk => by simp only [Option.some.injEq] at hk; have h6 := BR.out.size; have h7 := B1.out.size; omega)
        · obtain ⟨up, hup0⟩ : ∃ up, u = up := ⟨_, rfl⟩
          subst hup0
          have hup : u ≤ ln := by omega
          have UC := UC'
          have UG : Hid (∀ k, k < u → errA n f D X k = 0) := hgd
          have UB : Hid (u < ln → errA n f D X u ≠ 0) := fun _ => by rw [← hwe]; exact hw0
          have EW : Hid (endZ n f D X ln u = wt) := by show _ = _; unfold endZ; rw [if_neg (by omega)]; exact hwe.symm
          have hq : (wt == 0) = false := by simpa using hw0
          clear hgd hwe UC'
          by_cases hlt : j < ln
          · have hlt' : (j : Int) < ln := by omega
            go_upto_region 23 with fail
            have C3 : Hid ((wr.alloc (.cells #[.bool true] 4)).cell? ⟨wr.heap.size, 0, none⟩ = some (.bool true)) := new_cell' wr _ _ 0 _ rfl
            have Z3 : Hid ((wr.alloc (.cells #[.bool true] 4)).frozen? ⟨wr.heap.size, 0, none⟩ = false) := by show _ = _; simp [go_sem]
            have B3 : Hid (Below wr.heap.size wr (wr.alloc (.cells #[.bool true] 4))) := (Below.refl _ _).alloc (Nat.le_refl _) _
            have E3 : Hid (wr.heap.size < (wr.alloc (.cells #[.bool true] 4)).heap.size) := by show _ < _; simp
            generalize wr.alloc (.cells #[.bool true] 4) = w3 at C3 Z3 B3 E3 ⊢
            have d0 : w3.cell? ⟨w.heap.size, 0, none⟩ = some (.slice ba n bc) := cell_later' (cell_low Y0.out BR.out (by have := hL1.out; omega)) B3.out
            have TR : Hid (Calls Try.prog 10 #[.slice ba n bc, .func (.func 11) #[] #[.pointer (some ⟨w.heap.size + 1, 0, none⟩), .pointer (some ⟨w1.heap.size, 0, none⟩), .pointer (some ⟨w.heap.size, 0, none⟩), .pointer (some ⟨wr.heap.size, 0, none⟩)]] w3 fun e w' => e = .returned (.int .i64 (endZ n f D X ln u)) ∧ w'.cell? ⟨wr.heap.size, 0, none⟩ = some (.bool true) ∧ w3.grownBy w' (some wr.heap.size)) := by
              have hs := B3.out.size
              have hs1 := BR.out.size
              have hs2 := hL1.out
              have hs3 := E3.out
              have hs4 := GL.out
              have hs5 := B1.out.size
              refine acts_try w3 n f (by omega) _ _ _ _ ⟨by omega, by omega, by omega, by omega⟩ ⟨by omega, by omega, by omega⟩ la ln lc D X (cell_later' (cell_low Y1.out BR.out (by omega)) B3.out) hlh (((HA.out.later B1.out).later (BR.out)).later B3.out) (fun h0 x e => ⟨by have := HLA.out h0 x e; omega, by have := HLA.out h0 x e; omega⟩) HX.out u (cell_later' UC.out B3.out) hup ba bc d0 hbh (((HBB.out.later B1.out).later BR.out).later B3.out) (fun h0 x e => ⟨by have := HBA.out h0 x e; omega, by have := HBA.out h0 x e; omega⟩) C3.out Z3.out UG.out UB.out (by omega)
            go_wp2_with (go_at_call 10; refine TR.out.mono ?_; rintro e w4 ⟨rfl, c4, g4⟩)
            go_ret
            refine ⟨ret_bool (by rw [EW.out]; simp), ?_⟩
            have h5 : Below w.heap.size w w3 := bnext (bnext B1.out BR.out) B3.out
            exact h5.grown g4 h5.size (fun k hk => by simp only [Option.some.injEq] at hk; have h6 := BR.out.size; have h7 := B1.out.size; omega)
          · have hlt' : ¬ (j : Int) < ln := by omega
            go_upto_region 23 with fail
            have C3 : Hid ((wr.alloc (.cells #[.bool true] 4)).cell? ⟨wr.heap.size, 0, none⟩ = some (.bool true)) := new_cell' wr _ _ 0 _ rfl
            have Z3 : Hid ((wr.alloc (.cells #[.bool true] 4)).frozen? ⟨wr.heap.size, 0, none⟩ = false) := by show _ = _; simp [go_sem]
            have B3 : Hid (Below wr.heap.size wr (wr.alloc (.cells #[.bool true] 4))) := (Below.refl _ _).alloc (Nat.le_refl _) _
            have E3 : Hid (wr.heap.size < (wr.alloc (.cells #[.bool true] 4)).heap.size) := by show _ < _; simp
            generalize wr.alloc (.cells #[.bool true] 4) = w3 at C3 Z3 B3 E3 ⊢
            have d0 : w3.cell? ⟨w.heap.size, 0, none⟩ = some (.slice ba n bc) := cell_later' (cell_low Y0.out BR.out (by have := hL1.out; omega)) B3.out
            have TR : Hid (Calls Try.prog 10 #[.slice ba n bc, .func (.func 11) #[] #[.pointer (some ⟨w.heap.size + 1, 0, none⟩), .pointer (some ⟨w1.heap.size, 0, none⟩), .pointer (some ⟨w.heap.size, 0, none⟩), .pointer (some ⟨wr.heap.size, 0, none⟩)]] w3 fun e w' => e = .returned (.int .i64 (endZ n f D X ln u)) ∧ w'.cell? ⟨wr.heap.size, 0, none⟩ = some (.bool true) ∧ w3.grownBy w' (some wr.heap.size)) := by
              have hs := B3.out.size
              have hs1 := BR.out.size
              have hs2 := hL1.out
              have hs3 := E3.out
              have hs4 := GL.out
              have hs5 := B1.out.size
              refine acts_try w3 n f (by omega) _ _ _ _ ⟨by omega, by omega, by omega, by omega⟩ ⟨by omega, by omega, by omega⟩ la ln lc D X (cell_later' (cell_low Y1.out BR.out (by omega)) B3.out) hlh (((HA.out.later B1.out).later (BR.out)).later B3.out) (fun h0 x e => ⟨by have := HLA.out h0 x e; omega, by have := HLA.out h0 x e; omega⟩) HX.out u (cell_later' UC.out B3.out) hup ba bc d0 hbh (((HBB.out.later B1.out).later BR.out).later B3.out) (fun h0 x e => ⟨by have := HBA.out h0 x e; omega, by have := HBA.out h0 x e; omega⟩) C3.out Z3.out UG.out UB.out (by omega)
            go_wp2_with (go_at_call 10; refine TR.out.mono ?_; rintro e w4 ⟨rfl, c4, g4⟩)
            go_ret
            refine ⟨ret_bool (by rw [EW.out]; simp), ?_⟩
            have h5 : Below w.heap.size w w3 := bnext (bnext B1.out BR.out) B3.out
            exact h5.grown g4 h5.size (fun k hk => by simp only [Option.some.injEq] at hk; have h6 := BR.out.size; have h7 := B1.out.size; omega)
end Go.Proofs.Ytgnokbmhbeeblaa
