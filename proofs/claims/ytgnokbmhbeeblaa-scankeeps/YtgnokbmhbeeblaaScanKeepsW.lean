/- The walk over what is kept. -/
import Derived.Test.YtgnokbmhbeeblaaScanTriesW
import Derived.Laws.BitsAllLaws
namespace Go.Proofs.Ytgnokbmhbeeblaa
open Go.ChangeShapes Go.WideShapes Go.ChangeAt Go.RowKit
set_option linter.unusedVariables false
set_option linter.unusedSimpArgs false
/-- A row of n bytes, that may be written. -/
def RowV (w : World) (g n : Nat) : Prop := (∀ k, k < n → ∃ x : Int, (0 ≤ x ∧ x < 256) ∧ w.cell? ⟨g, k, none⟩ = some (.int .u8 x)) ∧ (∀ q, w.frozen? ⟨g, q, none⟩ = false) ∧ g < w.heap.size
theorem RowV.later {w w' : World} {g n : Nat} (h : RowV w g n) (hb : Below w.heap.size w w') : RowV w' g n :=
  ⟨fun k hk => by obtain ⟨x, hx, hc⟩ := h.1 k hk; exact ⟨x, hx, cell_later' hc hb⟩, fun q => (hb.frozen (p := ⟨g, q, none⟩) h.2.2).trans (h.2.1 q), Nat.lt_of_lt_of_le h.2.2 hb.size⟩
theorem RowV.put {w : World} {g n : Nat} (h : RowV w g n) (j : Nat) (x : Int) (hx : 0 ≤ x ∧ x < 256) : RowV (w.setCell ⟨g, j, none⟩ (.int .u8 x)) g n := by
  refine ⟨fun k hk => ?_, fun q => by simpa using h.2.1 q, by simpa using h.2.2⟩
  obtain ⟨y, hy, hc⟩ := h.1 k hk
  by_cases e : k = j
  · subst e; exact ⟨x, hx, World.cell?_setCell_same _ _ _ hc⟩
  · exact ⟨y, hy, by rw [World.cell?_setCell_other _ _ _ _ (fun q => e (congrArg Addr.off q).symm)]; exact hc⟩
theorem rowV_of_own {w : World} {base : Nat} {e : TypeId} {a : Option Addr} {n cap : Nat} {F : Nat → Int} (h : w.ownsRow base e 1 (.slice a n cap) n (cellsK .u8 n F)) (hF : ∀ i, 0 ≤ F i ∧ F i < 256) (hn : 0 < n) : ∃ g, a = some ⟨g, 0, none⟩ ∧ base ≤ g ∧ RowV w g n ∧ n ≤ cap := by
  obtain ⟨g, cap', hv, hb, hl⟩ := h.form hn
  simp only [Value.slice.injEq] at hv
  obtain ⟨rfl, -, rfl⟩ := hv
  exact ⟨g, rfl, hb, ⟨fun k hk => ⟨F k, hF k, by rw [h.cellAt k (by omega)]; exact cellsK_get _ _ _ _ hk⟩, fun q => h.frozenAt q, hl⟩, own_cap h⟩
theorem xor_bd (x : Int) (h0 : 0 ≤ x) (h1 : x < 256) : 0 ≤ bits BinOp.xor IntKind.u8 x 255 ∧ bits BinOp.xor IntKind.u8 x 255 < 256 := by
  rw [u8_xor x 255 h0 h1 (by decide) (by decide)]
  have : x.toNat ^^^ (255 : Int).toNat < 2 ^ 8 := Nat.xor_lt_two_pow (by omega) (by decide)
  omega
theorem row_block8 {w : World} {a : Option Addr} {n : Nat} {f : Nat → Int} (h : Bytes w a n f) : n = 0 ∨ ∃ b off, a = some ⟨b, off, none⟩ ∧ b < w.heap.size := by
  obtain ⟨_, h0 | ⟨b, off, e, hc⟩⟩ := h
  · exact .inl h0
  · by_cases hn : n = 0
    · exact .inl hn
    · exact .inr ⟨b, off, e, World.block_lt_of_cell? w ⟨b, off + 0, none⟩ (hc 0 (by omega))⟩
set_option maxRecDepth 100000 in
set_option maxHeartbeats 4000000 in
theorem keeps_walk (w : World) (a : Option Addr) (n c : Nat) (f : Nat → Int) (hh : Head a n c) (hb : Bytes w a n f) (hm : n ≤ 9223372036854775807) :
    Calls Try.prog 7 #[.slice a n c] w fun e w' => e = .returned (.bool true) ∧ Below w.heap.size w w' := by
  have AW : Hid (∀ W, Calls Try.prog 8 #[] W fun e w' => e = .returned (.bool true) ∧ Below W.heap.size W w') := awake_true
  have HB : Hid (Bytes w a n f) := hb
  clear hb
  by_cases h1 : 300 < (n : Int)
  · go_enter Try.func7, Try.ntmps7
    go_wp2_with (first
      | (go_at_call 8; refine (AW.out w).mono ?_; rintro e w1 ⟨rfl, b1⟩)
      | (go_at_call 8; refine (AW.out _).mono ?_; rintro e w2 ⟨rfl, b2⟩))
    go_ret
    exact ⟨rfl, bnext b1 b2⟩
  have h1' : (n : Int) ≤ 300 := by omega
  go_enter Try.func7, Try.ntmps7
  go_upto_region 3 with (go_at_call 8; refine (AW.out w).mono ?_; rintro e w1 ⟨rfl, b1⟩)
  have B1 : Hid (Below w.heap.size w w1) := b1
  have R1 : Hid (RowK .u8 w1 a n f) := by have h := HB.out.later b1; exact ⟨fun i => by have := h.1 i; simp [Lit.wf, IntKind.min, IntKind.max, IntKind.signed, IntKind.bits]; omega, h.2⟩
  clear b1
  go_upto_region 4 with (at_builtin; refine wpList_append_fresh w1 rfl (.tmp 18) (.tmp 19) 22 rfl 5 (.int .u8 0) 1 Try.underlying22 slB rfl rfl a n c (cellsK .u8 n f) rfl (cellsK_len _ _ _) (head_nil hh) (row_cells R1.out) (cellsK_one _ _ _) (by unfold maxLen; omega) (by omega) ?_; intro a2 c2 w2 o2 b2)
  have B2 : Hid (Below w.heap.size w w2) := bnext B1.out b2
  have O2 : Hid (w2.ownsRow w1.heap.size 5 1 (.slice a2 n c2) n (cellsK .u8 n f)) := o2
  have NW : Hid (Calls Try.prog 32 #[.slice a2 n c2] w2 fun e w' => ∃ v, e = .returned v ∧ Sc w2.heap.size w' v n f ∧ Below w2.heap.size w2 w') := new_sc w2 a2 n c2 f (by omega) (own_bytes o2 HB.out.1).1 (own_bytes o2 HB.out.1).2
  clear b2 o2 R1
  go_upto_region 5 with (go_at_call 32; refine NW.out.mono ?_; rintro e w3 ⟨v, rfl, hS, b3⟩)
  obtain ⟨g, rfl, hg⟩ := hS.ptr
  have S3 : Hid (Sc w2.heap.size w3 (.pointer (some ⟨g, 0, none⟩)) n f) := hS
  have B3 : Hid (Below w.heap.size w w3) := bnext B2.out b3
  have E3 : Hid (w2.heap.size ≤ w3.heap.size) := b3.size
  have O3 : Hid (w3.ownsRow w1.heap.size 5 1 (.slice a2 n c2) n (cellsK .u8 n f)) := by
    obtain ⟨k1, k2⟩ := O2.out
    refine ⟨k1, k2.imp id fun ⟨g, cap, cur, hv, hb, hh, r⟩ => ⟨g, cap, cur, hv, hb, ?_, r⟩⟩
    have hl : g < w2.heap.size := by
      rcases Nat.lt_or_ge g w2.heap.size with h | h
      · exact h
      · rw [Array.getElem?_eq_none h] at hh; cases hh
    exact (b3.block g hl).trans hh
  have L2 : Hid (∀ x, a2 = some x → x.block < w2.heap.size) := fun x e => (O2.out.lt x.block (by rw [e]; rfl)).2
  have L1 : Hid (w.heap.size ≤ w1.heap.size) := B1.out.size
  clear hS b3 NW O2
  go_upto_region 8 with fail
  go_loopw [5] (fun i wr => ∃ j : Nat, j ≤ n ∧ i = .int .i64 j ∧ Sc w2.heap.size wr (.pointer (some ⟨g, 0, none⟩)) n f ∧ Below w.heap.size w wr ∧ w2.heap.size ≤ wr.heap.size ∧ (n = 0 ∨ ∃ g2, a2 = some ⟨g2, 0, none⟩ ∧ RowV wr g2 n ∧ w.heap.size ≤ g2 ∧ g2 < w2.heap.size)) (fun i _ => n - (intOf i).toNat)
  case atStart =>
    refine ⟨0, Nat.zero_le _, rfl, S3.out, B3.out, E3.out, ?_⟩
    by_cases h0 : n = 0
    · exact .inl h0
    · obtain ⟨g2, e2, hb2, hr2, -⟩ := rowV_of_own O3.out HB.out.1 (by omega)
      exact .inr ⟨g2, e2, hr2, Nat.le_trans L1.out hb2, L2.out _ e2⟩
  case round =>
    obtain ⟨j, hj, rfl, hS, hBw, hEw, hR⟩ := hrel
    have SR : Hid (Sc w2.heap.size wr (.pointer (some ⟨g, 0, none⟩)) n f) := hS
    have BR : Hid (Below w.heap.size w wr) := hBw
    have ER : Hid (w2.heap.size ≤ wr.heap.size) := hEw
    clear hS hBw hEw
    by_cases hlt : j < n
    · obtain h0 | ⟨g2, rfl, hV, hl1, hl2⟩ := hR
      · omega
      have RV : Hid (RowV wr g2 n) := hV
      obtain ⟨x, ⟨x0, x1⟩, cx⟩ := hV.1 j hlt
      have z := hV.2.1 j
      have hlt' : (j : Int) < n := by omega
      have hj0 : (0 : Int) ≤ j := by omega
      have hc2 := own_cap O3.out
      clear hV
      go_wp2
      go_roundw
      case rel =>
        exact ⟨j + 1, by omega, by go_num, SR.out.low (b := g2) hl2 (grown_set' (Below.refl _ _) _ _), BR.out.setCell (p := ⟨g2, j, none⟩) hl1 _, by simpa using ER.out, .inr ⟨g2, rfl, RV.out.put j _ (xor_bd x x0 x1), hl1, hl2⟩⟩
      case measure => simp [intOf]; omega
    · obtain rfl : n = j := by omega
      have BY : Hid (Calls Try.prog 14 #[.pointer (some ⟨g, 0, none⟩), .int .i64 (n : Int)] wr fun e w' => ∃ a c, ActPost w2.heap.size wr (.pointer (some ⟨g, 0, none⟩)) n f 1 n (.slice a n c) e w' ∧ (errZ n f 1 n = 0 → w'.ownsRow wr.heap.size 5 1 (.slice a n c) n (cellsK .u8 n f))) := by
        have h := bytes_sc SR.out ER.out (n : Int) (by omega) (by omega)
        rwa [Int.toNat_natCast] at h
      have EB : Hid (errZ n f 1 n = 0) := by show _ = _; rw [err_bytes, if_neg (by omega)]
      have SM : Hid (∀ W a1 c1, Bytes W a1 n f → Bytes W a n f → Calls Try.prog 20 #[.slice a1 n c1, .slice a n c] W fun e w' => e = .returned (.bool true) ∧ Below W.heap.size W w') := fun W a1 c1 h1 h2 => by
        have h := bytes_eq W a1 a n n c1 c f f (by omega) (by omega) h1 h2
        rwa [show eqB n n f f = true from by unfold eqB; simp] at h
      go_upto_region 12 with (go_at_call 14; refine BY.out.mono ?_; rintro e w6 ⟨a6, c6, hp6, o6⟩; obtain ⟨rfl, -, b6⟩ := hp6.ok EB.out)
      have B6 : Hid (Below w.heap.size w w6) := BR.out.trans (b6.mono (by have := B2.out.size; omega))
      have O6 : Hid (w6.ownsRow wr.heap.size 5 1 (.slice a6 n c6) n (cellsK .u8 n f)) := o6 EB.out
      have LR : Hid (w.heap.size ≤ wr.heap.size) := BR.out.size
      have HA6 : Hid (Bytes w6 a n f) := HB.out.later B6.out
      clear b6 o6 BY
      go_upto_region 14 with (go_at_call 20; refine (SM.out _ _ _ (own_bytes O6.out HB.out.1).2 HA6.out).mono ?_; rintro e w7 ⟨rfl, b7⟩)
      have B7 : Hid (Below w.heap.size w w7) := bnext B6.out b7
      have V7 : Hid (n = 0 ∨ ∃ g6, a6 = some ⟨g6, 0, none⟩ ∧ RowV w7 g6 n ∧ w.heap.size ≤ g6) := by
        by_cases h0 : n = 0
        · exact .inl h0
        · obtain ⟨g6, e6, hb6, hr6, -⟩ := rowV_of_own O6.out HB.out.1 (by omega)
          exact .inr ⟨g6, e6, hr6.later b7, Nat.le_trans LR.out hb6⟩
      have hc6 : (n : Int) ≤ c6 := by have := own_cap O6.out; omega
      clear b7 HA6 B6 O6
      go_loopw [8] (fun i wx => ∃ j : Nat, j ≤ n ∧ i = .int .i64 j ∧ Below w.heap.size w wx ∧ (n = 0 ∨ ∃ g6, a6 = some ⟨g6, 0, none⟩ ∧ RowV wx g6 n ∧ w.heap.size ≤ g6)) (fun i _ => n - (intOf i).toNat)
      case atStart => exact ⟨0, Nat.zero_le _, rfl, B7.out, V7.out⟩
      case round =>
        obtain ⟨j, hj, rfl, hBx, hVx⟩ := hrel
        have BX : Hid (Below w.heap.size w wr) := hBx
        clear hBx
        by_cases hlt : j < n
        · obtain h0 | ⟨g6, rfl, hV, hl6⟩ := hVx
          · omega
          have RV : Hid (RowV wr g6 n) := hV
          obtain ⟨x, ⟨x0, x1⟩, cx⟩ := hV.1 j hlt
          have z := hV.2.1 j
          have hlt' : (j : Int) < n := by omega
          have hj0 : (0 : Int) ≤ j := by omega
          clear hV
          go_wp2
          go_roundw
          case rel => exact ⟨j + 1, by omega, by go_num, BX.out.setCell (p := ⟨g6, j, none⟩) hl6 _, .inr ⟨g6, rfl, RV.out.put j _ ⟨by decide, by decide⟩, hl6⟩⟩
          case measure => simp [intOf]; omega
        · obtain rfl : n = j := by omega
          have NW2 : Hid (Calls Try.prog 32 #[.slice a n c] wr fun e w' => ∃ v, e = .returned v ∧ Sc wr.heap.size w' v n f ∧ Below wr.heap.size wr w') := new_sc wr a n c f (by omega) hh (HB.out.later BX.out)
          go_upto_region 18 with (go_at_call 32; refine NW2.out.mono ?_; rintro e w8 ⟨v8, rfl, hS8, b8⟩)
          obtain ⟨g8, rfl, hg8⟩ := hS8.ptr
          have B8 : Hid (Below w.heap.size w w8) := bnext BX.out b8
          have LX : Hid (w.heap.size ≤ wr.heap.size) := BX.out.size
          have BY2 : Hid (Calls Try.prog 14 #[.pointer (some ⟨g8, 0, none⟩), .int .i64 (n : Int)] w8 fun e w' => ∃ a c, ActPost wr.heap.size w8 (.pointer (some ⟨g8, 0, none⟩)) n f 1 n (.slice a n c) e w' ∧ (errZ n f 1 n = 0 → w'.ownsRow w8.heap.size 5 1 (.slice a n c) n (cellsK .u8 n f))) := by
            have h := bytes_sc hS8 b8.size (n : Int) (by omega) (by omega)
            rwa [Int.toNat_natCast] at h
          have L0 : Hid (∀ W g, Sc wr.heap.size W (.pointer (some ⟨g8, 0, none⟩)) 0 g → Calls Try.prog 28 #[.pointer (some ⟨g8, 0, none⟩)] W fun e w' => e = .returned (.int .i64 (0 : Nat)) ∧ Below W.heap.size W w') := fun W g h => left_sc h
          have WZ : Hid (n - (wantZ f 1 (n : Int)).toNat = 0) := by
            have : wantZ f 1 (n : Int) = n := rfl
            show _ = _
            rw [this, Int.toNat_natCast]; omega
          clear b8 NW2 SM
          have SM : Hid (∀ W a1 c1, Bytes W a1 n f → Bytes W a n f → Calls Try.prog 20 #[.slice a1 n c1, .slice a n c] W fun e w' => e = .returned (.bool true) ∧ Below W.heap.size W w') := fun W a1 c1 h1 h2 => by
            have h := bytes_eq W a1 a n n c1 c f f (by omega) (by omega) h1 h2
            rwa [show eqB n n f f = true from by unfold eqB; simp] at h
          go_wp2_with (first
            | (go_at_call 28; refine (L0.out _ _ (hS9'.later b10)).mono ?_; rintro e w11 ⟨rfl, b11⟩)
            | (go_at_call 20; refine (SM.out _ _ _ (own_bytes O9 HB.out.1).2 (HB.out.later B9.out)).mono ?_; rintro e w10 ⟨rfl, b10⟩)
            | (go_at_call 14; refine BY2.out.mono ?_; rintro e w9 ⟨a9, c9, hp9, o9⟩; obtain ⟨rfl, hS9, b9⟩ := hp9.ok EB.out; have B9 : Hid (Below w.heap.size w w9) := B8.out.trans (b9.mono LX.out); have O9 := o9 EB.out; have hS9' := hS9; rw [WZ.out] at hS9'))
          go_ret
          exact ⟨rfl, bnext (bnext B9.out b10) b11⟩
end Go.Proofs.Ytgnokbmhbeeblaa
