/- The walk over what is kept. -/
import Derived.Test.YtcbhnpjaaaefiaaObjCutW
import Derived.Test.YtcbhnpjaaaefiaaObjRd3
import Derived.Laws.BitsAllLaws
namespace Go.Proofs.Ytcbhnpjaaaefiaa
open Go.ChangeShapes Go.WideShapes Go.ChangeAt Go.RowKit
set_option linter.unusedVariables false
set_option linter.unusedSimpArgs false
/-- A row of n bytes, that may be written. -/
def RowV9 (w : World) (g n : Nat) : Prop := (∀ k, k < n → ∃ x : Int, (0 ≤ x ∧ x < 256) ∧ w.cell? ⟨g, k, none⟩ = some (.int .u8 x)) ∧ (∀ q, w.frozen? ⟨g, q, none⟩ = false) ∧ g < w.heap.size
theorem RowV9.later {w w' : World} {g n : Nat} (h : RowV9 w g n) (hb : Below w.heap.size w w') : RowV9 w' g n :=
  ⟨fun k hk => by obtain ⟨x, hx, hc⟩ := h.1 k hk; exact ⟨x, hx, cell_later' hc hb⟩, fun q => (hb.frozen (p := ⟨g, q, none⟩) h.2.2).trans (h.2.1 q), Nat.lt_of_lt_of_le h.2.2 hb.size⟩
theorem RowV9.put {w : World} {g n : Nat} (h : RowV9 w g n) (j : Nat) (x : Int) (hx : 0 ≤ x ∧ x < 256) : RowV9 (w.setCell ⟨g, j, none⟩ (.int .u8 x)) g n := by
  refine ⟨fun k hk => ?_, fun q => by simpa using h.2.1 q, by simpa using h.2.2⟩
  obtain ⟨y, hy, hc⟩ := h.1 k hk
  by_cases e : k = j
  · subst e; exact ⟨x, hx, World.cell?_setCell_same _ _ _ hc⟩
  · exact ⟨y, hy, by rw [World.cell?_setCell_other _ _ _ _ (fun q => e (congrArg Addr.off q).symm)]; exact hc⟩
theorem rowV9_of_own {w : World} {base : Nat} {a : Option Addr} {n cap : Nat} {l : Bs} (hl : l.length = n) (h : w.ownsRow base 5 1 (.slice a n cap) n (l.map fun x => .int .u8 x)) (hF : Byt l) (hn : 0 < n) : ∃ g, a = some ⟨g, 0, none⟩ ∧ base ≤ g ∧ RowV9 w g n := by
  obtain ⟨g, cap', hv, hb, hl9⟩ := h.form hn
  simp only [Value.slice.injEq] at hv
  obtain ⟨rfl, -, rfl⟩ := hv
  refine ⟨g, rfl, hb, fun k hk => ⟨gF l k, gF_byt hF k, ?_⟩, fun q => h.frozenAt q, hl9⟩
  rw [h.cellAt k (by omega), List.getElem?_map, gF_get (by omega)]
  rfl
theorem xor_bd9 (x : Int) (h0 : 0 ≤ x) (h1 : x < 256) : 0 ≤ bits BinOp.xor IntKind.u8 x 255 ∧ bits BinOp.xor IntKind.u8 x 255 < 256 := by
  rw [u8_xor x 255 h0 h1 (by decide) (by decide)]
  have : x.toNat ^^^ (255 : Int).toNat < 2 ^ 8 := Nat.xor_lt_two_pow (by omega) (by decide)
  omega
/-- Another block is written to. -/
theorem apart_put {w w' : World} {g o : Nat} {v : Value} (h : Apart (G1 g) w w') : Apart (G1 g) w (w'.setCell ⟨g, o, none⟩ v) :=
  ⟨h.os, h.tape, h.output, by have := h.size; simp; omega, fun j hj hn => (Below.heap_setCell _ _ _ _ (by simp only [ne_eq]; intro e; exact hn e)).trans (h.block j hj hn)⟩
/-- Where the data's bytes lie: they are written to, but not the data. -/
structure Soft (base X b off D : Nat) (u : Array Value) (W0 W : World) : Prop where
  low : Below base W0 W
  box : ∀ j v, u[j]? = some v → W.cell? ⟨X, j, none⟩ = some v
  at_ : ∀ i, i < D → ∃ a m c, W.cell? ⟨b, off + i * 7 + 5, none⟩ = some (.slice a m c) ∧ m ≤ maxLen ∧ m ≤ c ∧ ∀ j, j < m → ∃ q o, a = some ⟨q, o, none⟩ ∧ (q ≠ b ∧ q ≠ X ∧ base ≤ q) ∧ (∃ x, W.cell? ⟨q, o + j, none⟩ = some (.int .u8 x)) ∧ W.frozen? ⟨q, o + j, none⟩ = false
theorem Soft.put {base X b off D : Nat} {u : Array Value} {W0 W : World} (h : Soft base X b off D u W0 W) {q o : Nat} (hq : q ≠ b ∧ q ≠ X ∧ base ≤ q) (x : Int) : Soft base X b off D u W0 (W.setCell ⟨q, o, none⟩ (.int .u8 x)) := by
  obtain ⟨f1, f2, f3⟩ := hq
  have oth : ∀ {g k : Nat} {v : Value}, g ≠ q → W.cell? ⟨g, k, none⟩ = some v → (W.setCell ⟨q, o, none⟩ (.int .u8 x)).cell? ⟨g, k, none⟩ = some v := fun hg hc => (World.cell?_setCell_other _ _ _ _ (fun e => hg (congrArg Addr.block e).symm)).trans hc
  refine ⟨h.low.setCell (p := ⟨q, o, none⟩) f3 _, fun k v hk => oth (Ne.symm f2) (h.box k v hk), fun i hi => ?_⟩
  obtain ⟨a, m, c, hc, hm, hmc, hr⟩ := h.at_ i hi
  refine ⟨a, m, c, oth (Ne.symm f1) hc, hm, hmc, fun j hj => ?_⟩
  obtain ⟨q', o', e, hf, ⟨y, hy⟩, hz⟩ := hr j hj
  refine ⟨q', o', e, hf, ?_, by simpa using hz⟩
  by_cases e2 : (⟨q', o' + j, none⟩ : Addr) = ⟨q, o, none⟩
  · rw [e2]
    rw [e2] at hy
    exact ⟨x, World.cell?_setCell_same _ _ _ hy⟩
  · exact ⟨y, (World.cell?_setCell_other _ _ _ _ (fun q => e2 q.symm)).trans hy⟩
theorem Soft.later {base X b off D : Nat} {u : Array Value} {W0 W W' : World} (h : Soft base X b off D u W0 W) (hb : Below W.heap.size W W') : Soft base X b off D u W' W' := by
  refine ⟨Below.refl _ _, fun j v hj => cell_later' (h.box j v hj) hb, fun i hi => ?_⟩
  obtain ⟨a, m, c, hc, hm, hmc, hr⟩ := h.at_ i hi
  refine ⟨a, m, c, cell_later' hc hb, hm, hmc, fun j hj => ?_⟩
  obtain ⟨q', o', e, hf, ⟨y, hy⟩, hz⟩ := hr j hj
  exact ⟨q', o', e, hf, ⟨y, cell_later' hy hb⟩, (hb.frozen (p := ⟨q', o' + j, none⟩) (World.block_lt_of_cell? W _ hy)).trans hz⟩
theorem Soft.apart {base X b off D : Nat} {u : Array Value} {W0 W W' : World} {g : Nat} (h : Soft base X b off D u W0 W) (ha : Apart (G1 g) W W') (hg : g < base) (hX : g ≠ X) (hb : g ≠ b) : Soft base X b off D u W' W' := by
  have oth : ∀ {k o : Nat} {v : Value}, k ≠ g → W.cell? ⟨k, o, none⟩ = some v → W'.cell? ⟨k, o, none⟩ = some v := fun hk hc => ha.cell hc hk
  refine ⟨Below.refl _ _, fun j v hj => oth (Ne.symm hX) (h.box j v hj), fun i hi => ?_⟩
  obtain ⟨a, m, c, hc, hm, hmc, hr⟩ := h.at_ i hi
  refine ⟨a, m, c, oth (Ne.symm hb) hc, hm, hmc, fun j hj => ?_⟩
  obtain ⟨q', o', e, hf, ⟨y, hy⟩, hz⟩ := hr j hj
  have hne : q' ≠ g := by have := hf.2.2; omega
  exact ⟨q', o', e, hf, ⟨y, oth hne hy⟩, (World.frozen?_of_block (a := ⟨q', o' + j, none⟩) (ha.block q' (World.block_lt_of_cell? W _ hy) hne)).trans hz⟩
/-- What was read, boxed. -/
theorem soft_new {w5 w6 : World} {ga ea oa : Option Addr} {G E9 O9 gc ec oc b off : Nat} {p : ObjM} (h : IsObj (Fresh w5.heap.size w6) w6 (.agg #[.slice ga G gc, .slice ea E9 ec, .slice oa O9 oc]) p) (hlo : Loose w6 (.agg #[.slice ga G gc, .slice ea E9 ec, .slice oa O9 oc])) (he : ea = some ⟨b, off, none⟩) (hE : E9 = p.datas.length) (t : TypeId) (h56 : Below w5.heap.size w5 w6) :
    Soft w5.heap.size w6.heap.size b off E9 #[.slice ga G gc, .slice ea E9 ec, .slice oa O9 oc] (w6.alloc (.cells #[.slice ga G gc, .slice ea E9 ec, .slice oa O9 oc] t)) (w6.alloc (.cells #[.slice ga G gc, .slice ea E9 ec, .slice oa O9 oc] t)) := by
  have up := keep_alloc8 (Below.refl _ w6) (.cells #[.slice ga G gc, .slice ea E9 ec, .slice oa O9 oc] t)
  refine ⟨Below.refl _ _, fun j v hj => new_cell' w6 _ t j v hj, fun i hi => ?_⟩
  obtain ⟨vf, vd, vn, ev, -, hd, -⟩ := h
  simp only [Value.agg.injEq, Array.mk.injEq, List.cons.injEq, and_true] at ev
  obtain ⟨-, rfl, -⟩ := ev
  obtain ⟨a', c', e', -, -, dx⟩ := LstA.open hd
  simp only [Value.slice.injEq] at e'
  obtain ⟨rfl, -, -⟩ := e'
  obtain ⟨b', off', x, e, hA, hx, vb, vr, -, -, -, -, -, x5, -, hb, -, -⟩ := dx i (by omega)
  rw [he] at e
  cases e
  obtain ⟨a, c, rfl, hm, hh, bx⟩ := LstA.open hb.1
  refine ⟨a, _, c, cell_later' x5 up, hm, hh.1, fun j hj => ?_⟩
  obtain ⟨q, o, z, rfl, hq, hz, z0⟩ := bx j hj
  unfold NumAt at z0
  rw [Nat.mul_one] at z0
  obtain ⟨l1, l2⟩ := hlo _ _ _ rfl b off E9 ec (by rw [he]) i hi q o _ c x5
  exact ⟨q, o, rfl, ⟨l1, by have := hq.2; omega, hq.1⟩, ⟨z, cell_later' z0 up⟩, (up.frozen (p := ⟨q, o + j, none⟩) (World.block_lt_of_cell? w6 _ z0)).trans (l2 j hj)⟩
set_option maxRecDepth 100000 in
set_option maxHeartbeats 8000000 in
theorem keeps9_walk (w : World) (v : Value) (p : ObjM) (h : IsObj (fun _ => True) w v p) : Calls Try.prog 8 #[v] w fun e w' => e = .returned (.bool true) ∧ Below w.heap.size w w' := by
  have AW : Hid (∀ W, Calls Try.prog 9 #[] W fun e w' => e = .returned (.bool true) ∧ Below W.heap.size W w') := awake9
  obtain ⟨fa, fc, da, dc, na, nc, rfl⟩ := h.open
  generalize p.funcs.length = F at h
  generalize p.datas.length = D at h
  generalize p.notes.length = N at h
  have FW : Hid (∀ W v, IsObj (fun _ => True) W v p → Calls Try.prog 10 #[v] W fun e w' => Says e (fewO p) ∧ Below W.heap.size W w') := fun W v h => few_any h
  have BC : Hid (∀ W, Below (w.alloc (.cells #[.slice fa F fc, .slice da D dc, .slice na N nc] 26)).heap.size (w.alloc (.cells #[.slice fa F fc, .slice da D dc, .slice na N nc] 26)) W →
    W.cell? ⟨w.heap.size, 0, none⟩ = some (.slice fa F fc) ∧ W.cell? ⟨w.heap.size, 1, none⟩ = some (.slice da D dc) ∧ W.cell? ⟨w.heap.size, 2, none⟩ = some (.slice na N nc) ∧ IsObj (fun _ => True) W (.agg #[.slice fa F fc, .slice da D dc, .slice na N nc]) p) := box_cells h _
  have UP : Hid (Below w.heap.size w (w.alloc (.cells #[.slice fa F fc, .slice da D dc, .slice na N nc] 26))) := keep_alloc8 (Below.refl _ _) _
  clear h
  go_enter Try.func8, Try.ntmps8
  go_upto_region 1 with fail
  generalize w.alloc (.cells #[.slice fa F fc, .slice da D dc, .slice na N nc] 26) = w0 at BC UP ⊢
  by_cases hf : fewO p
  rotate_left
  · have HF : Hid (¬ fewO p) := hf
    clear hf
    go_upto_region 2 with (first
      | (go_at_call 9; refine (AW.out _).mono ?_; rintro e w1 ⟨rfl, b1⟩; obtain ⟨x0, x1, x2, ob⟩ := BC.out w1 b1)
      | (go_at_call 10; refine (FW.out _ _ ob).mono ?_; rintro e w2 ⟨hs, b2⟩; obtain rfl := hs.no HF.out; clear hs))
    go_wp2_with (go_at_call 9; refine (AW.out _).mono ?_; rintro e w3 ⟨rfl, b3⟩)
    go_ret
    exact ⟨rfl, bnext UP.out (bnext (bnext b1 b2) b3)⟩
  have HF : Hid (fewO p) := hf
  clear hf
  go_upto_region 3 with (first
    | (go_at_call 9; refine (AW.out _).mono ?_; rintro e w1 ⟨rfl, b1⟩; obtain ⟨x0, x1, x2, ob⟩ := BC.out w1 b1)
    | (go_at_call 10; refine (FW.out _ _ ob).mono ?_; rintro e w2 ⟨hs, b2⟩; obtain rfl := hs.yes HF.out; clear hs))
  have B2 : Hid (Below w0.heap.size w0 w2) := bnext b1 b2
  clear b1 b2 x0 x1 x2 ob
  obtain ⟨x0, x1, x2, ob⟩ := BC.out w2 B2.out
  have CW : Hid (Calls Try.prog 11 #[.agg #[.slice fa F fc, .slice da D dc, .slice na N nc]] w2 (WritePost w2 p)) := cwrite ob HF.out
  by_cases hok : objOk p
  rotate_left
  · have OK : Hid (¬ objOk p) := hok
    clear hok
    go_wp2_with (go_at_call 11; refine CW.out.mono ?_; rintro e W0 ⟨⟨h1, -⟩ | h1, b3⟩; exact absurd h1 OK.out; obtain ⟨-, a3, c3, rfl⟩ := h1)
    go_ret
    exact ⟨rfl, bnext UP.out (bnext B2.out b3)⟩
  have OK : Hid (objOk p) := hok
  clear hok
  go_upto_region 6 with (go_at_call 11; refine CW.out.mono ?_; rintro e w3 ⟨h1 | ⟨h1, -⟩, b3⟩; obtain ⟨-, v3, rfl, o3⟩ := h1; rotate_left; exact absurd OK.out h1)
  have B3 : Hid (Below w0.heap.size w0 w3) := bnext B2.out b3
  obtain ⟨a3, c3, rfl⟩ := own_form o3
  have V3 : Hid (IsBytes (Fresh w2.heap.size w3) w3 (.slice a3 (objW p).length c3) (objW p)) := own_is o3 (objW_byt' OK.out)
  have hshort := objW_short OK.out
  have hlong : 4 ≤ (objW p).length := by unfold objW; rw [List.length_append]; have : splL.length = 4 := rfl; omega
  obtain ⟨T, eT⟩ : ∃ T, objW p = T := ⟨_, rfl⟩
  obtain ⟨n, en⟩ : ∃ n, T.length = n := ⟨_, rfl⟩
  have BT : Hid (Byt T) := by rw [← eT]; exact objW_byt' OK.out
  rw [eT] at V3 hshort hlong o3 ⊢
  rw [en] at V3 hshort hlong ⊢
  have o3' : w3.ownsRow w2.heap.size 5 1 (.slice a3 n c3) n (T.map fun x => .int .u8 x) := by unfold OwnB at o3; rwa [en] at o3
  obtain ⟨g, rfl, hg2, hrv⟩ := rowV9_of_own en o3' BT.out (by omega)
  have RV : Hid (RowV9 w3 g n) := hrv
  have G2 : Hid (w2.heap.size ≤ g ∧ g < w3.heap.size) := ⟨hg2, hrv.2.2⟩
  have ET : Hid (objW p = T ∧ T.length = n) := ⟨eT, en⟩
  clear b3 x0 x1 x2 ob CW eT o3 o3' en hg2 hrv
  have hn1 : (4 : Int) ≤ n := by omega
  have hn2 : (n : Int) ≤ 1900010 := by omega
  have SR : Hid (∀ W, Below w3.heap.size w3 W → Src W (some ⟨g, 0, none⟩) c3 T) := fun W hW => by
    obtain ⟨a', c', e, ⟨hh, -⟩, hb, -⟩ := (V3.out.keep (Stay.of_below hW)).row
    rw [ET.out.2] at e hh hb
    simp only [Value.slice.injEq] at e
    obtain ⟨rfl, -, rfl⟩ := e
    exact src_bytes ET.out.2 hh hb
  have O0 : Hid (OwnB w3.heap.size (w3.alloc (.cells #[] 5)) (.slice (some ⟨w3.heap.size, 0, none⟩) 0 0) []) := World.ownsRow_made w3 #[] 0 (Nat.le_refl _) (Nat.zero_le _) rfl
  have U0 : Hid (Below w3.heap.size w3 (w3.alloc (.cells #[] 5))) := keep_alloc8 (Below.refl _ _) _
  go_upto_region 7 with (at_builtin; refine wpList_app9 rfl (.tmp 28) (.tmp 29) rfl w3.heap.size _ [] rfl O0.out (some ⟨g, 0, none⟩) n c3 T rfl ET.out.2 (SR.out _ U0.out) (by show 0 + n ≤ 3000000; omega) U0.out.size ?_; intro v5 w5 o5 b5 g5)
  have B5 : Hid (Below w3.heap.size w3 w5) := U0.out.trans b5
  have O5 : Hid (OwnB w3.heap.size w5 v5 T) := o5
  have CR : Hid (Calls Try.prog 15 #[.slice (some ⟨g, 0, none⟩) n c3] w5 (ReadPost w5 T)) := by
    have h := V3.out.keep (Stay.of_below B5.out)
    exact cread h (by rw [ET.out.2]; omega)
  have RW : Hid (readO T = (p, 0)) := by rw [← ET.out.1]; exact read_write p OK.out
  clear b5 g5 o5 O0 U0 SR
  go_upto_region 8 with (go_at_call 15; refine CR.out.mono ?_; rintro e w6 ⟨⟨u, rfl, hu, hlo⟩, b6⟩; rw [RW.out] at hu ⊢; dsimp only at hu ⊢; obtain ⟨ga, gc, ea, ec, oa, oc, rfl⟩ := hu.open)
  have hlen : p.datas.length ≤ 64 := OK.out.2.1.1
  have XB : Hid (XAt (w6.alloc (.cells #[.slice ga p.funcs.length gc, .slice ea p.datas.length ec, .slice oa p.notes.length oc] 26)) w6.heap.size [.slice ga p.funcs.length gc, .slice ea p.datas.length ec, .slice oa p.notes.length oc]) := XAt.new _ _ _
  have B7 : Hid (Below w5.heap.size w5 (w6.alloc (.cells #[.slice ga p.funcs.length gc, .slice ea p.datas.length ec, .slice oa p.notes.length oc] 26))) := keep_alloc8 b6 _
  have HU : Hid (IsObj (Fresh w5.heap.size w6) (w6.alloc (.cells #[.slice ga p.funcs.length gc, .slice ea p.datas.length ec, .slice oa p.notes.length oc] 26)) (.agg #[.slice ga p.funcs.length gc, .slice ea p.datas.length ec, .slice oa p.notes.length oc]) p) := hu.keep (Stay.of_below (keep_alloc8 (Below.refl _ _) _))
  have SF : Hid (∀ b off, ea = some ⟨b, off, none⟩ → Soft w5.heap.size w6.heap.size b off p.datas.length #[.slice ga p.funcs.length gc, .slice ea p.datas.length ec, .slice oa p.notes.length oc] (w6.alloc (.cells #[.slice ga p.funcs.length gc, .slice ea p.datas.length ec, .slice oa p.notes.length oc] 26)) (w6.alloc (.cells #[.slice ga p.funcs.length gc, .slice ea p.datas.length ec, .slice oa p.notes.length oc] 26))) := fun b off he => soft_new hu hlo he rfl _ b6
  have EA : Hid (0 < p.datas.length → ∃ b off, ea = some ⟨b, off, none⟩ ∧ w5.heap.size ≤ b) := fun h0 => by
    obtain ⟨vf, vd, vn, ev, -, hd, -⟩ := hu
    simp only [Value.agg.injEq, Array.mk.injEq, List.cons.injEq, and_true] at ev
    obtain ⟨-, rfl, -⟩ := ev
    obtain ⟨a', c', e', -, -, dx⟩ := LstA.open hd
    simp only [Value.slice.injEq] at e'
    obtain ⟨b', off', x, e, hA, -⟩ := dx 0 h0
    exact ⟨b', off', by rw [e'.1, e], hA.1⟩
  have G6 : Hid (g < w5.heap.size ∧ w5.heap.size ≤ w6.heap.size) := ⟨Nat.lt_of_lt_of_le G2.out.2 B5.out.size, b6.size⟩
  have R7 : Hid (RowV9 (w6.alloc (.cells #[.slice ga p.funcs.length gc, .slice ea p.datas.length ec, .slice oa p.notes.length oc] 26)) g n) := (RV.out.later B5.out).later B7.out
  have O7 : Hid (OwnB w3.heap.size (w6.alloc (.cells #[.slice ga p.funcs.length gc, .slice ea p.datas.length ec, .slice oa p.notes.length oc] 26)) v5 T) := O5.out.later B7.out
  have Q5 : Hid (∀ q, v5.ownBlock = some q → w3.heap.size ≤ q ∧ q < w5.heap.size) := fun q hq => O5.out.lt q hq
  have B37 : Hid (Below w3.heap.size w3 (w6.alloc (.cells #[.slice ga p.funcs.length gc, .slice ea p.datas.length ec, .slice oa p.notes.length oc] 26))) := bnext B5.out B7.out
  clear hu hlo b6 CR RV O5
  generalize p.funcs.length = G at XB B7 HU SF R7 O7 B37 ⊢
  generalize p.datas.length = E9 at XB B7 HU SF EA R7 O7 B37 hlen ⊢
  generalize p.notes.length = O9 at XB B7 HU SF R7 O7 B37 ⊢
  generalize w6.alloc (.cells #[.slice ga G gc, .slice ea E9 ec, .slice oa O9 oc] 26) = w7 at XB B7 HU SF R7 O7 B37 ⊢
  generalize w6.heap.size = X6 at XB SF G6 ⊢
  go_wp2
  go_loopw [8] (fun i wr => ∃ k : Nat, k ≤ n ∧ i = .int .i64 k ∧ RowV9 wr g n ∧ Apart (G1 g) w7 wr) (fun i _ => n - (intOf i).toNat)
  case atStart => exact ⟨0, Nat.zero_le _, rfl, R7.out, Apart.refl _ _⟩
  case round =>
    obtain ⟨k, hk, rfl, hrow, hap⟩ := hrel
    have RR : Hid (RowV9 wr g n) := hrow
    have AP : Hid (Apart (G1 g) w7 wr) := hap
    clear hap
    by_cases hlt : k < n
    · have hlt' : (k : Int) < n := by omega
      obtain ⟨x, ⟨x0, x1⟩, cx⟩ := hrow.1 k hlt
      have z := hrow.2.1 k
      clear hrow
      go_wp2
      go_roundw
      case rel => exact ⟨k + 1, by omega, by go_num, RR.out.put k _ (xor_bd9 x x0 x1), apart_put AP.out⟩
      case measure => simp [intOf]; omega
    · obtain rfl : n = k := by omega
      clear hrow
      have hX6 : X6 < w7.heap.size := XB.out.lt (by simp)
      have XB2 : Hid (XAt wr X6 [.slice ga G gc, .slice ea E9 ec, .slice oa O9 oc]) := XB.out.apart hX6 AP.out (by show ¬ X6 = g; have := G6.out; omega)
      have BW2 : Hid (Below w0.heap.size w0 wr) := ((bnext B3.out B37.out)).trans (AP.out.low (fun k hk => by have hk : k = g := hk; subst hk; exact Nat.le_trans B2.out.size G2.out.1) (Nat.le_trans B3.out.size B37.out.size))
      have HU2 : Hid (IsObj (Fresh w5.heap.size w6) wr (.agg #[.slice ga G gc, .slice ea E9 ec, .slice oa O9 oc]) p) := HU.out.keep (Stay.of_apart AP.out fun k h1 h2 => by have h2 : k = g := h2; subst h2; have := h1.1; have := G6.out.1; omega)
      have O8 : Hid (OwnB w3.heap.size wr v5 T) := own_apart O7.out AP.out (fun k h1 h2 => by have h2 : k = g := h2; subst h2; have := G2.out.2; omega)
      obtain ⟨x0, x1, x2, ob⟩ := BC.out wr BW2.out
      have y0 := XB2.out.1 0 _ rfl
      have y1 := XB2.out.1 1 _ rfl
      have y2 := XB2.out.1 2 _ rfl
      have RS : Hid (Calls Try.prog 17 #[.agg #[.slice ga G gc, .slice ea E9 ec, .slice oa O9 oc], .agg #[.slice fa F fc, .slice da D dc, .slice na N nc]] wr fun e w' => Says e (p = p) ∧ Below wr.heap.size wr w') := rsame9_any HU2.out ob
      clear ob
      go_upto_region 14 with (go_at_call 17; refine RS.out.mono ?_; rintro e w8 ⟨hs, b8⟩; obtain rfl := hs.yes (by first | rfl | trivial); clear hs)
      have B8 : Hid (Below w0.heap.size w0 w8) := bnext BW2.out b8
      have OC : Hid (OwnB w3.heap.size w8 v5 T) := O8.out.later b8
      have XB3 : Hid (XAt w8 X6 [.slice ga G gc, .slice ea E9 ec, .slice oa O9 oc]) := XB2.out.later (XB2.out.lt (by simp)) b8
      have SF2 : Hid (∀ b off, ea = some ⟨b, off, none⟩ → w5.heap.size ≤ b → Soft w5.heap.size X6 b off E9 #[.slice ga G gc, .slice ea E9 ec, .slice oa O9 oc] w8 w8) := fun b off he hb => ((SF.out b off he).apart AP.out G6.out.1 (by have := G6.out; omega) (by have := G6.out; omega)).later b8
      clear RS x0 x1 x2 y0 y1 y2 XB2 HU2 O8 SF HU BW2 RR AP XB O7 R7 hX6 b8
      have hE : (E9 : Int) ≤ 64 := by omega
      by_cases hE0 : E9 = 0
      · subst hE0
        go_wp2
        go_loopw [9] (fun i wr => i = .int .i64 0 ∧ XAt wr X6 [.slice ga G gc, .slice ea 0 ec, .slice oa O9 oc] ∧ Below w0.heap.size w0 wr ∧ OwnB w3.heap.size wr v5 T) (fun _ _ => 0)
        case atStart => exact ⟨rfl, XB3.out, B8.out, OC.out⟩
        case round =>
          obtain ⟨rfl, hxb, hb8, hoc⟩ := hrel
          have B8r := Hid.mk9 hb8
          have OCr := Hid.mk9 hoc
          have y1 := hxb.1 1 _ rfl
          clear hxb hb8 hoc XB3 OC B8 SF2
          go_upto_region 21 with fail
          clear y1
          obtain ⟨x0, x1, x2, ob⟩ := BC.out wr B8r.out
          have CW : Hid (Calls Try.prog 11 #[.agg #[.slice fa F fc, .slice da D dc, .slice na N nc]] wr (WritePost wr p)) := cwrite ob HF.out
          clear ob
          go_upto_region 22 with (go_at_call 11; refine CW.out.mono ?_; rintro e w9 ⟨h1 | ⟨h1, -⟩, b9⟩; obtain ⟨-, v9, rfl, o9⟩ := h1; rotate_left; exact absurd OK.out h1)
          have SM : Hid (Calls Try.prog 13 #[v9, v5] w9 fun e w' => Says e (objW p = T) ∧ Below w9.heap.size w9 w') := rbytes_any (own_is o9 (objW_byt' OK.out)) (own_is (OCr.out.later b9) BT.out)
          go_wp2_with (go_at_call 13; refine SM.out.mono ?_; rintro e w10 ⟨hs, b10⟩; obtain rfl := hs.yes ET.out.1)
          go_ret
          exact ⟨rfl, bnext UP.out (bnext B8r.out (bnext b9 b10))⟩
      · obtain ⟨b, off, rfl, hb5⟩ := EA.out (by omega)
        have S8 : Hid (Soft w5.heap.size X6 b off E9 #[.slice ga G gc, .slice (some ⟨b, off, none⟩) E9 ec, .slice oa O9 oc] w8 w8) := SF2.out b off rfl hb5
        clear SF2 XB3 EA
        go_wp2
        go_loopw [9] (fun i wr => ∃ k : Nat, k ≤ E9 ∧ i = .int .i64 k ∧ Soft w5.heap.size X6 b off E9 #[.slice ga G gc, .slice (some ⟨b, off, none⟩) E9 ec, .slice oa O9 oc] w8 wr) (fun i _ => E9 - (intOf i).toNat)
        case atStart => exact ⟨0, Nat.zero_le _, rfl, S8.out⟩
        case round =>
          obtain ⟨k, hk, rfl, hsf⟩ := hrel
          have SS := Hid.mk9 hsf
          clear hsf S8
          have y1 := SS.out.box 1 _ rfl
          by_cases hlt : k < E9
          · have hlt' : (k : Int) < E9 := by omega
            obtain ⟨am, m, cm, hc5, hm, hmc, -⟩ := SS.out.at_ k hlt
            have hm' : (m : Int) ≤ 9223372036854775807 := by unfold maxLen at hm; omega
            have C5 := Hid.mk9 hc5
            clear hc5 hm
            go_wp2
            go_loopw [10] (fun j wi => ∃ t : Nat, t ≤ m ∧ j = .int .i64 t ∧ Soft w5.heap.size X6 b off E9 #[.slice ga G gc, .slice (some ⟨b, off, none⟩) E9 ec, .slice oa O9 oc] w8 wi ∧ wi.cell? ⟨b, off + k * 7 + 5, none⟩ = some (.slice am m cm)) (fun j _ => m - (intOf j).toNat)
            case atStart => exact ⟨0, Nat.zero_le _, rfl, SS.out, C5.out⟩
            case round =>
              obtain ⟨t, ht, rfl, hsf, hc5⟩ := hrel
              have S9 := Hid.mk9 hsf
              have C9 := Hid.mk9 hc5
              clear hsf SS C5 y1
              have y1 := S9.out.box 1 _ rfl
              by_cases hjt : t < m
              · have hjt' : (t : Int) < m := by omega
                obtain ⟨a', m', c', hc', -, hmc', hr'⟩ := S9.out.at_ k hlt
                rw [hc5] at hc'
                cases hc'
                obtain ⟨q, o9, rfl, hq, ⟨z, cz⟩, fz⟩ := hr' t hjt
                have HQ := Hid.mk9 hq
                clear hr' hq
                go_wp2
                go_roundw
                case rel => exact ⟨t + 1, by omega, by go_num, S9.out.put HQ.out 7, (World.cell?_setCell_other _ _ _ _ (fun e => HQ.out.1 (congrArg Addr.block e))).trans C9.out⟩
                case measure => simp [intOf]; omega
              · obtain rfl : t = m := by omega
                go_wp2
                go_roundw
                case rel => exact ⟨k + 1, by omega, by go_num, S9.out⟩
                case measure => simp [intOf]; omega
          · obtain rfl : k = E9 := by omega
            have BZ : Hid (Below w0.heap.size w0 wr) := B8.out.trans (SS.out.low.mono (Nat.le_trans B3.out.size B5.out.size))
            have OZ : Hid (OwnB w3.heap.size wr v5 T) := own_lo OC.out fun q hq1 hq2 => SS.out.low.block q (Q5.out q hq2).2
            go_upto_region 21 with fail
            clear y1
            obtain ⟨x0, x1, x2, ob⟩ := BC.out wr BZ.out
            have CW : Hid (Calls Try.prog 11 #[.agg #[.slice fa F fc, .slice da D dc, .slice na N nc]] wr (WritePost wr p)) := cwrite ob HF.out
            clear ob
            go_upto_region 22 with (go_at_call 11; refine CW.out.mono ?_; rintro e w9 ⟨h1 | ⟨h1, -⟩, b9⟩; obtain ⟨-, v9, rfl, o9⟩ := h1; rotate_left; exact absurd OK.out h1)
            have SM : Hid (Calls Try.prog 13 #[v9, v5] w9 fun e w' => Says e (objW p = T) ∧ Below w9.heap.size w9 w') := rbytes_any (own_is o9 (objW_byt' OK.out)) (own_is (OZ.out.later b9) BT.out)
            go_wp2_with (go_at_call 13; refine SM.out.mono ?_; rintro e w10 ⟨hs, b10⟩; obtain rfl := hs.yes ET.out.1)
            go_ret
            exact ⟨rfl, bnext UP.out (bnext BZ.out (bnext b9 b10))⟩
end Go.Proofs.Ytcbhnpjaaaefiaa
