/- The walk over images that are changed behind the calls. -/
import Derived.Test.YtlpmkbdoofbmiaaImgWritesW
import Derived.Laws.BitsAllLaws
namespace Go.Proofs.Ytlpmkbdoofbmiaa
open Go.ChangeShapes Go.WideShapes Go.ChangeAt Go.RowKit
set_option linter.unusedVariables false
set_option linter.unusedSimpArgs false
/-- A row of n bytes, that may be written. -/
def RowV9 (w : World) (g n : Nat) : Prop := (∀ k, k < n → ∃ x : Int, (0 ≤ x ∧ x < 256) ∧ w.cell? ⟨g, k, none⟩ = some (.int .u8 x)) ∧ (∀ q, w.frozen? ⟨g, q, none⟩ = false) ∧ g < w.heap.size
theorem RowV9.later {w w' : World} {g n : Nat} (h : RowV9 w g n) (hb : Below w.heap.size w w') : RowV9 w' g n :=
  ⟨fun k hk => by obtain ⟨x, hx, hc⟩ := h.1 k hk; exact ⟨x, hx, cell_later' hc hb⟩, fun q => (hb.frozen (p := ⟨g, q, none⟩) h.2.2).trans (h.2.1 q), Nat.lt_of_lt_of_le h.2.2 hb.size⟩
theorem RowV9.put {w : World} {g n : Nat} (h : RowV9 w g n) (j : Nat) (x : Int) (hx : 0 ≤ x ∧ x < 256) : RowV9 (w.setCell ⟨g, j, none⟩ (.int .u8 x)) g n := by
  refine ⟨fun k hk => ?_, fun q => by simpa using h.2.1 q, by simpa using h.2.2⟩
  obtain ⟨y, hy, hc⟩ := h.1 k hk
  by_cases e : k = j
  · subst e; exact ⟨x, hx, World.cell?_setCell_same _ _ _ hc⟩
  · exact ⟨y, hy, by rw [World.cell?_setCell_other _ _ _ _ (fun q => e (congrArg Addr.off q).symm)]; exact hc⟩
theorem rowV9_of_own {w : World} {base : Nat} {a : Option Addr} {n cap : Nat} {l : Bs} (hl : l.length = n) (h : w.ownsRow base 5 1 (.slice a n cap) n (l.map fun x => .int .u8 x)) (hF : Byt l) (hn : 0 < n) : ∃ g, a = some ⟨g, 0, none⟩ ∧ base ≤ g ∧ RowV9 w g n := by
  obtain ⟨g, cap', hv, hb, hl9⟩ := h.form hn
  simp only [Value.slice.injEq] at hv
  obtain ⟨rfl, -, rfl⟩ := hv
  refine ⟨g, rfl, hb, fun k hk => ⟨gF l k, gF_byt hF k, ?_⟩, fun q => h.frozenAt q, hl9⟩
  rw [h.cellAt k (by omega), List.getElem?_map, gF_get (by omega)]
  rfl
theorem xor_bd9 (x : Int) (h0 : 0 ≤ x) (h1 : x < 256) : 0 ≤ bits BinOp.xor IntKind.u8 x 255 ∧ bits BinOp.xor IntKind.u8 x 255 < 256 := by
  rw [u8_xor x 255 h0 h1 (by decide) (by decide)]
  have : x.toNat ^^^ (255 : Int).toNat < 2 ^ 8 := Nat.xor_lt_two_pow (by omega) (by decide)
  omega
/-- Another block is written to. -/
theorem apart_put {w w' : World} {g o : Nat} {v : Value} (h : Apart (G1 g) w w') : Apart (G1 g) w (w'.setCell ⟨g, o, none⟩ v) :=
  ⟨h.os, h.tape, h.output, by have := h.size; simp; omega, fun j hj hn => (Below.heap_setCell _ _ _ _ (by simp only [ne_eq]; intro e; exact hn e)).trans (h.block j hj hn)⟩
set_option maxRecDepth 100000 in
set_option maxHeartbeats 8000000 in
theorem ikeeps_walk (w : World) (v : Value) (p : ImM) (h : IsImg (fun _ => True) w v p) : Calls Try.prog 6 #[v] w fun e w' => e = .returned (.bool true) ∧ Below w.heap.size w w' := by
  have AW : Hid (∀ W, Calls Try.prog 7 #[] W fun e w' => e = .returned (.bool true) ∧ Below W.heap.size W w') := awake15
  obtain ⟨ca, cc, da, dc, rfl, -, hbd⟩ := h.open
  have BY : Hid (Byt (imgW p)) := imgW_byt hbd.2
  clear hbd
  obtain ⟨en, een⟩ : ∃ x, p.entry = x := ⟨_, rfl⟩
  obtain ⟨wt, ewt⟩ : ∃ x, p.write = x := ⟨_, rfl⟩
  obtain ⟨mo, emo⟩ : ∃ x, p.more = x := ⟨_, rfl⟩
  obtain ⟨C, eC⟩ : ∃ x, p.code.length = x := ⟨_, rfl⟩
  obtain ⟨D, eD⟩ : ∃ x, p.data.length = x := ⟨_, rfl⟩
  have EQ : Hid (p.code.length = C ∧ p.data.length = D ∧ p.entry = en ∧ p.write = wt ∧ p.more = mo) := ⟨eC, eD, een, ewt, emo⟩
  rw [een, ewt, emo, eC, eD] at h ⊢
  clear een ewt emo eC eD
  have FW : Hid (∀ W v, IsImg (fun _ => True) W v p → Calls Try.prog 8 #[v] W fun e w' => Says e (fewI p) ∧ Below W.heap.size W w') := fun W v h => small15 h
  have BC := Hid.mk9 (box_img h 25)
  have UP : Hid (Below w.heap.size w (w.alloc (.cells #[.slice ca C cc, .int .i64 en, .slice da D dc, .int .i64 wt, .int .i64 mo] 25))) := keep_alloc8 (Below.refl _ _) _
  clear h
  go_enter Try.func6, Try.ntmps6
  go_upto_region 1 with fail
  generalize w.alloc (.cells #[.slice ca C cc, .int .i64 en, .slice da D dc, .int .i64 wt, .int .i64 mo] 25) = w0 at BC UP ⊢
  by_cases hf : fewI p
  rotate_left
  · have HF := Hid.mk9 hf
    clear hf
    go_upto_region 2 with (first
      | (go_at_call 7; refine (AW.out _).mono ?_; rintro e w1 ⟨rfl, b1⟩; obtain ⟨⟨x0, x1, x2, x3, x4⟩, ob⟩ := BC.out w1 b1)
      | (go_at_call 8; refine (FW.out _ _ ob).mono ?_; rintro e w2 ⟨hs, b2⟩; obtain rfl := hs.no HF.out; clear hs))
    go_wp2_with (go_at_call 7; refine (AW.out _).mono ?_; rintro e w3 ⟨rfl, b3⟩)
    go_ret
    exact ⟨rfl, bnext UP.out (bnext (bnext b1 b2) b3)⟩
  have HF := Hid.mk9 hf
  clear hf
  go_upto_region 3 with (first
    | (go_at_call 7; refine (AW.out _).mono ?_; rintro e w1 ⟨rfl, b1⟩; obtain ⟨⟨x0, x1, x2, x3, x4⟩, ob⟩ := BC.out w1 b1)
    | (go_at_call 8; refine (FW.out _ _ ob).mono ?_; rintro e w2 ⟨hs, b2⟩; obtain rfl := hs.yes HF.out; clear hs))
  have B2 : Hid (Below w0.heap.size w0 w2) := bnext b1 b2
  clear b1 b2 x0 x1 x2 x3 x4 ob
  obtain ⟨⟨x0, x1, x2, x3, x4⟩, ob⟩ := BC.out w2 B2.out
  have CW : Hid (Calls Try.prog 9 #[.agg #[.slice ca C cc, .int .i64 en, .slice da D dc, .int .i64 wt, .int .i64 mo]] w2 (WriteI w2 p)) := iwrite ob
  by_cases hok : imgOk p
  rotate_left
  · have OK := Hid.mk9 hok
    clear hok
    go_wp2_with (go_at_call 9; refine CW.out.mono ?_; rintro e W0 ⟨⟨h1, -⟩ | h1, b3⟩; exact absurd h1 OK.out; obtain ⟨-, a3, c3, rfl⟩ := h1)
    go_ret
    exact ⟨rfl, bnext UP.out (bnext B2.out b3)⟩
  have OK := Hid.mk9 hok
  clear hok
  go_upto_region 6 with (go_at_call 9; refine CW.out.mono ?_; rintro e w3 ⟨h1 | ⟨h1, -⟩, b3⟩; obtain ⟨-, v3, rfl, o3⟩ := h1; rotate_left; exact absurd OK.out h1)
  have B3 : Hid (Below w0.heap.size w0 w3) := bnext B2.out b3
  obtain ⟨a3, c3, rfl⟩ := own_form o3
  have V3 : Hid (IsBytes (Fresh w2.heap.size w3) w3 (.slice a3 (imgW p).length c3) (imgW p)) := own_is o3 BY.out
  have hlen := imgW_len p
  have k1 := OK.out.1.1
  have k4 := OK.out.2.2.1
  have RW : Hid (readI (imgW p) = (p, 0)) := readI_write p OK.out
  have hD : (D : Int) ≤ 65536 := by have := EQ.out.2.1; omega
  obtain ⟨n, en9⟩ : ∃ n, (imgW p).length = n := ⟨_, rfl⟩
  have hn1 : (24 : Int) ≤ n := by omega
  have hn2 : (n : Int) ≤ 400000 := by omega
  have o3' : w3.ownsRow w2.heap.size 5 1 (.slice a3 n c3) n ((imgW p).map fun x => .int .u8 x) := by unfold OwnB at o3; rwa [en9] at o3
  obtain ⟨g, rfl, hg2, hrv⟩ := rowV9_of_own en9 o3' BY.out (by omega)
  have RV : Hid (RowV9 w3 g n) := hrv
  have G2 : Hid (w2.heap.size ≤ g ∧ g < w3.heap.size) := ⟨hg2, hrv.2.2⟩
  rw [en9] at V3 ⊢
  have ET := Hid.mk9 en9
  clear b3 x0 x1 x2 x3 x4 ob o3 o3' CW hlen k1 k4 en9 hg2 hrv
  have CR : Hid (Calls Try.prog 13 #[.slice (some ⟨g, 0, none⟩) n c3] w3 (ReadI w3 (imgW p))) := iread V3.out (by have := ET.out; omega)
  go_upto_region 7 with (go_at_call 13; refine CR.out.mono ?_; rintro e w4 ⟨⟨u, rfl, hu⟩, b4⟩; rw [RW.out] at hu ⊢; dsimp only at hu ⊢; have HU := Hid.mk9 hu; obtain ⟨ga, gc, ea, ec, rfl, -, -⟩ := hu; rw [EQ.out.1, EQ.out.2.1, EQ.out.2.2.1, EQ.out.2.2.2.1, EQ.out.2.2.2.2] at HU ⊢)
  have HU4 : Hid (OwnI w3.heap.size (w4.alloc (.cells #[.slice ga C gc, .int .i64 en, .slice ea D ec, .int .i64 wt, .int .i64 mo] 25)) (.agg #[.slice ga C gc, .int .i64 en, .slice ea D ec, .int .i64 wt, .int .i64 mo]) p) := HU.out.later (keep_alloc8 (Below.refl _ _) _)
  have ED : Hid (∀ q, (Value.slice ea D ec).ownBlock = some q → w3.heap.size ≤ q ∧ q < w4.heap.size) := fun q hq => by
    obtain ⟨_, _, da', dc', e, -, od, -⟩ := HU.out
    simp only [Value.agg.injEq, Array.mk.injEq, List.cons.injEq, and_true] at e
    obtain ⟨-, -, e, -, -⟩ := e
    exact own_oct od q (by rw [← e]; exact hq)
  have B4 : Hid (Below w0.heap.size w0 (w4.alloc (.cells #[.slice ga C gc, .int .i64 en, .slice ea D ec, .int .i64 wt, .int .i64 mo] 25))) := keep_alloc8 (bnext B3.out b4) _
  have XB : Hid (XAt (w4.alloc (.cells #[.slice ga C gc, .int .i64 en, .slice ea D ec, .int .i64 wt, .int .i64 mo] 25)) w4.heap.size [.slice ga C gc, .int .i64 en, .slice ea D ec, .int .i64 wt, .int .i64 mo]) := XAt.new _ _ _
  have R4 : Hid (RowV9 (w4.alloc (.cells #[.slice ga C gc, .int .i64 en, .slice ea D ec, .int .i64 wt, .int .i64 mo] 25)) g n) := (RV.out.later b4).later (keep_alloc8 (Below.refl _ _) _)
  have G4 : Hid (w3.heap.size ≤ w4.heap.size) := b4.size
  clear b4 CR V3 RV RW HU
  generalize w4.alloc (.cells #[.slice ga C gc, .int .i64 en, .slice ea D ec, .int .i64 wt, .int .i64 mo] 25) = w5 at HU4 B4 XB R4 ⊢
  generalize w4.heap.size = X4 at XB ED G4 ⊢
  have hX4 : Hid (X4 < w5.heap.size) := XB.out.lt (by simp)
  go_wp2
  go_loopw [7] (fun i wr => ∃ k : Nat, k ≤ n ∧ i = .int .i64 k ∧ RowV9 wr g n ∧ Apart (G1 g) w5 wr) (fun i _ => n - (intOf i).toNat)
  case atStart => exact ⟨0, Nat.zero_le _, rfl, R4.out, Apart.refl _ _⟩
  case round =>
    clear R4
    obtain ⟨k, hk, rfl, hrow, hap⟩ := hrel
    have RR : Hid (RowV9 wr g n) := hrow
    have AP : Hid (Apart (G1 g) w5 wr) := hap
    clear hap
    by_cases hlt : k < n
    · have hlt' : (k : Int) < n := by omega
      obtain ⟨x, ⟨x0, x1⟩, cx⟩ := hrow.1 k hlt
      have z := hrow.2.1 k
      clear hrow
      go_wp2
      go_roundw
      case rel => exact ⟨k + 1, by omega, by go_num, RR.out.put k _ (xor_bd9 x x0 x1), apart_put AP.out⟩
      case measure => simp [intOf]; omega
    · obtain rfl : n = k := by omega
      clear hrow
      have XB2 : Hid (XAt wr X4 [.slice ga C gc, .int .i64 en, .slice ea D ec, .int .i64 wt, .int .i64 mo]) := XB.out.apart hX4.out AP.out (by show ¬ X4 = g; have := G2.out; have := G4.out; omega)
      have BW2 : Hid (Below w0.heap.size w0 wr) := B4.out.trans (AP.out.low (fun k hk => by have hk : k = g := hk; subst hk; exact Nat.le_trans B2.out.size G2.out.1) B4.out.size)
      have HU2 : Hid (OwnI w3.heap.size wr (.agg #[.slice ga C gc, .int .i64 en, .slice ea D ec, .int .i64 wt, .int .i64 mo]) p) := HU4.out.apart AP.out (fun k h1 h2 => by have h2 : k = g := h2; have := G2.out; omega)
      have hX5 : Hid (X4 < wr.heap.size) := Nat.lt_of_lt_of_le hX4.out AP.out.size
      obtain ⟨⟨x0, x1, x2, x3, x4⟩, ob⟩ := BC.out wr BW2.out
      obtain ⟨⟨y0, y1, y2, y3, y4⟩, -⟩ := XAt.five XB2.out
      have RS := Hid.mk9 (rsame14_any HU2.out.img ob)
      clear ob RR AP HU4 XB B4 hX4
      go_upto_region 13 with (go_at_call 15; refine RS.out.mono ?_; rintro e w8 ⟨hs, b8⟩; obtain rfl := hs.yes (by first | rfl | trivial); clear hs)
      have B8 : Hid (Below w0.heap.size w0 w8) := bnext BW2.out b8
      have HU3 : Hid (OwnI w3.heap.size w8 (.agg #[.slice ga C gc, .int .i64 en, .slice ea D ec, .int .i64 wt, .int .i64 mo]) p) := HU2.out.later b8
      have XB3 : Hid (XAt w8 X4 [.slice ga C gc, .int .i64 en, .slice ea D ec, .int .i64 wt, .int .i64 mo]) := XB2.out.later hX5.out b8
      have hX6 : Hid (X4 < w8.heap.size) := Nat.lt_of_lt_of_le hX5.out b8.size
      clear RS x0 x1 x2 x3 x4 y0 y1 y2 y3 y4 XB2 HU2 BW2 hX5 b8
      by_cases hD0 : D = 0
      · subst hD0
        go_wp2
        go_loopw [8] (fun i wr => i = .int .i64 0 ∧ wr = w8) (fun _ _ => 0)
        case atStart => exact ⟨rfl, rfl⟩
        case round =>
          obtain ⟨rfl, rfl⟩ := hrel
          obtain ⟨⟨-, -, y2, -, -⟩, -⟩ := XAt.five XB3.out
          have BZ := B8
          go_upto_region 17 with fail
          obtain ⟨⟨x0, x1, x2, x3, x4⟩, ob⟩ := BC.out wr BZ.out
          have CW2 := Hid.mk9 (iwrite ob)
          clear ob
          go_upto_region 18 with (go_at_call 9; refine CW2.out.mono ?_; rintro e w9 ⟨h1 | ⟨h1, -⟩, b9⟩; obtain ⟨-, v9, rfl, o9⟩ := h1; rotate_left; exact absurd OK.out h1)
          have B9 : Hid (Below w0.heap.size w0 w9) := bnext BZ.out b9
          have V9 := Hid.mk9 (own_is o9 BY.out)
          clear x0 x1 x2 x3 x4 o9
          obtain ⟨⟨x0, x1, x2, x3, x4⟩, ob⟩ := BC.out w9 B9.out
          have RW2 := Hid.mk9 (rwrite15 ob OK.out)
          have SM : Hid (∀ W v', Below w9.heap.size w9 W → OwnB w9.heap.size W v' (imgW p) → Calls Try.prog 11 #[v9, v'] W fun e w' => Says e (imgW p = imgW p) ∧ Below W.heap.size W w') := fun W v' hW o => rbytes_any (V9.out.keep (Stay.of_below hW)) (own_is o BY.out)
          clear ob b9
          go_wp2_with (first
            | (go_at_call 12; refine RW2.out.mono ?_; rintro e w10 ⟨v10, rfl, o10, b10⟩)
            | (go_at_call 11; refine (SM.out _ _ b10 o10).mono ?_; rintro e w11 ⟨hs, b11⟩; obtain rfl := hs.yes (by first | rfl | trivial); clear hs))
          go_ret
          exact ⟨rfl, bnext UP.out (bnext (bnext B9.out b10) b11)⟩
      · have OD : ∃ base, w8.ownsRow base 5 1 (.slice ea D ec) D (p.data.map fun x => .int .u8 x) ∧ Byt p.data ∧ p.data.length = D := by
          obtain ⟨_, _, da', dc', e, -, od, hb⟩ := HU3.out
          simp only [Value.agg.injEq, Array.mk.injEq, List.cons.injEq, and_true] at e
          obtain ⟨-, -, e, -, -⟩ := e
          refine ⟨w3.heap.size, ?_, hb, EQ.out.2.1⟩
          rw [e]
          unfold OwnB at od
          rw [EQ.out.2.1] at od
          simp only [Value.slice.injEq] at e
          obtain ⟨rfl, -, rfl⟩ := e
          rw [EQ.out.2.1]; exact od
        obtain ⟨base, od, hb, hdl⟩ := OD
        obtain ⟨q, rfl, -, hrv⟩ := rowV9_of_own hdl od hb (by omega)
        have Q := Hid.mk9 (ED.out q rfl)
        have RD := Hid.mk9 hrv
        clear od hb hdl hrv HU3 ED
        go_wp2
        go_loopw [8] (fun i wr => ∃ k : Nat, k ≤ D ∧ i = .int .i64 k ∧ RowV9 wr q D ∧ Apart (G1 q) w8 wr) (fun i _ => D - (intOf i).toNat)
        case atStart => exact ⟨0, Nat.zero_le _, rfl, RD.out, Apart.refl _ _⟩
        case round =>
          clear RD
          obtain ⟨k, hk, rfl, hrow, hap⟩ := hrel
          have RR : Hid (RowV9 wr q D) := hrow
          have AP : Hid (Apart (G1 q) w8 wr) := hap
          obtain ⟨⟨-, -, y2, -, -⟩, -⟩ := XAt.five (XB3.out.apart hX6.out hap (by show ¬ X4 = q; have := Q.out; omega))
          have hXq : X4 ≠ q := by have := Q.out; omega
          clear hap
          by_cases hlt : k < D
          · have hlt' : (k : Int) < D := by omega
            obtain ⟨x, ⟨x0, x1⟩, cx⟩ := hrow.1 k hlt
            have z := hrow.2.1 k
            clear hrow
            go_upto_region 16 with fail
            go_region_with (fail)
            all_goals (try go_wp2)
            all_goals (try go_roundw)
            all_goals first
              | exact ⟨k + 1, by omega, by go_num, (RR.out.put k _ (xor_bd9 x x0 x1)).later (Below.refl _ _).drew, (apart_put AP.out).then (Below.refl _ _).drew⟩
              | (simp [intOf]; omega)
          · obtain rfl : k = D := by omega
            have BZ : Hid (Below w0.heap.size w0 wr) := B8.out.trans (AP.out.low (fun j hj => by have hj : j = q := hj; subst hj; exact Nat.le_trans B3.out.size Q.out.1) B8.out.size)
            go_upto_region 17 with fail
            obtain ⟨⟨x0, x1, x2, x3, x4⟩, ob⟩ := BC.out wr BZ.out
            have CW2 := Hid.mk9 (iwrite ob)
            clear ob
            go_upto_region 18 with (go_at_call 9; refine CW2.out.mono ?_; rintro e w9 ⟨h1 | ⟨h1, -⟩, b9⟩; obtain ⟨-, v9, rfl, o9⟩ := h1; rotate_left; exact absurd OK.out h1)
            have B9 : Hid (Below w0.heap.size w0 w9) := bnext BZ.out b9
            have V9 := Hid.mk9 (own_is o9 BY.out)
            clear x0 x1 x2 x3 x4 o9
            obtain ⟨⟨x0, x1, x2, x3, x4⟩, ob⟩ := BC.out w9 B9.out
            have RW2 := Hid.mk9 (rwrite15 ob OK.out)
            have SM : Hid (∀ W v', Below w9.heap.size w9 W → OwnB w9.heap.size W v' (imgW p) → Calls Try.prog 11 #[v9, v'] W fun e w' => Says e (imgW p = imgW p) ∧ Below W.heap.size W w') := fun W v' hW o => rbytes_any (V9.out.keep (Stay.of_below hW)) (own_is o BY.out)
            clear ob b9
            go_wp2_with (first
              | (go_at_call 12; refine RW2.out.mono ?_; rintro e w10 ⟨v10, rfl, o10, b10⟩)
              | (go_at_call 11; refine (SM.out _ _ b10 o10).mono ?_; rintro e w11 ⟨hs, b11⟩; obtain rfl := hs.yes (by first | rfl | trivial); clear hs))
            go_ret
            exact ⟨rfl, bnext UP.out (bnext (bnext B9.out b10) b11)⟩
end Go.Proofs.Ytlpmkbdoofbmiaa
