/- The document's reader in memory, and what is taken by it. -/
import Derived.Test.YtcbhnpjaaaefiaaObjKit
import Derived.Test.YtcbhnpjaaaefiaaObjRef
import Derived.BigQuiet
namespace Go.Proofs.Ytcbhnpjaaaefiaa
open Go.ChangeShapes Go.WideShapes Go.ChangeAt Go.RowKit
set_option linter.unusedVariables false
set_option linter.unusedSimpArgs false
theorem list_gF (l : List Int) : (List.range l.length).map (gF l) = l := by
  refine List.ext_getElem? fun i => ?_
  by_cases h : i < l.length
  · rw [gF_get h]; simp [h]
  · rw [List.getElem?_eq_none (by simp; omega), List.getElem?_eq_none (by omega)]
theorem sumL_snoc (l : Bs) (x : Int) : sumL (l ++ [x]) = sumL l + x * 256 ^ l.length := by
  induction l with
  | nil => simp [sumL]
  | cons y l ih =>
    show y + 256 * sumL (l ++ [x]) = y + 256 * sumL l + x * 256 ^ (l.length + 1)
    rw [ih, Int.pow_succ, Int.mul_add, Int.add_assoc]
    congr 2
    rw [Int.mul_comm 256, Int.mul_assoc]
theorem sumL_F (f : Nat → Int) : ∀ n, sumL ((List.range n).map f) = sumZ f n
  | 0 => rfl
  | n + 1 => by rw [List.range_succ, List.map_append, List.map_singleton, sumL_snoc, sumL_F f n, List.length_map, List.length_range]; rfl
theorem sumL_gF (l : Bs) : sumL l = sumZ (gF l) l.length := by rw [← sumL_F, list_gF]
theorem textL_gF (l : Bs) : textL l = textF l.length (gF l) := by unfold textL textF; rw [list_gF]
theorem take_len (n : Nat) (s : St) : (takeR n s).1.length = n := by
  cases s with
  | bad e => simp [takeR]
  | good b =>
    unfold takeR
    dsimp only
    split
    · rw [List.length_take]; omega
    · simp
/-- The bytes left, or the first error. -/
def RdS (er : Int) (i N : Nat) (F : Nat → Int) : St → Prop
  | .good b => er = 0 ∧ b.length = N - i ∧ ∀ j, j < N - i → gF b j = F (j + i)
  | .bad e => er = e ∧ (e = 2 ∨ e = 4)
/-- The block g holds a reader that stands there; it and its bytes lie below B. -/
def Rd (B N : Nat) (w : World) (g : Nat) (s : St) : Prop :=
  ∃ a c i F er, (w.cell? ⟨g, 0, none⟩ = some (.slice a N c) ∧ w.cell? ⟨g, 1, none⟩ = some (.int .i64 (i : Nat)) ∧ w.cell? ⟨g, 2, none⟩ = some (.int .i64 er)) ∧ (w.frozen? ⟨g, 1, none⟩ = false ∧ w.frozen? ⟨g, 2, none⟩ = false) ∧
    (Head a N c ∧ Bytes w a N F) ∧ ((∀ x, a = some x → N ≠ 0 → x.block ≠ g ∧ x.block < B) ∧ g < B ∧ B ≤ w.heap.size) ∧ (i ≤ N ∧ N ≤ 20000) ∧ RdS er i N F s
abbrev G1 (g : Nat) : Nat → Prop := fun k => k = g
theorem Rd.lt {B N : Nat} {w : World} {g : Nat} {s : St} (h : Rd B N w g s) : g < w.heap.size := by
  obtain ⟨a, c, i, F, er, ⟨h0, _⟩, _⟩ := h
  exact World.block_lt_of_cell? w ⟨g, 0, none⟩ h0
theorem Rd.base {B N : Nat} {w : World} {g : Nat} {s : St} (h : Rd B N w g s) : g < B ∧ B ≤ w.heap.size := by
  obtain ⟨a, c, i, F, er, _, _, _, ⟨_, h1, h2⟩, _⟩ := h
  exact ⟨h1, h2⟩
theorem bytes_low {B : Nat} {w w' : World} {a : Option Addr} {n : Nat} {f : Nat → Int} (h : Bytes w a n f) (hb : Below B w w') (ha : ∀ x, a = some x → n ≠ 0 → x.block < B) : Bytes w' a n f :=
  ⟨h.1, h.2.imp id fun ⟨b, off, e, hc⟩ => ⟨b, off, e, fun i hi => (hb.cell (p := ⟨b, off + i, none⟩) (ha ⟨b, off, none⟩ e (by omega))).trans (hc i hi)⟩⟩
theorem bytes_set9 {w : World} {a : Option Addr} {n : Nat} {f : Nat → Int} (h : Bytes w a n f) {g : Nat} (hf : ∀ b off, a = some ⟨b, off, none⟩ → n ≠ 0 → b ≠ g) (o : Nat) (v : Value) : Bytes (w.setCell ⟨g, o, none⟩ v) a n f := by
  by_cases h0 : n = 0
  · exact ⟨h.1, .inl h0⟩
  · exact h.set (fun b off e => hf b off e h0) o v
/-- What lies below B stands. -/
theorem Rd.low {B N : Nat} {w w' : World} {g : Nat} {s : St} (h : Rd B N w g s) (hb : Below B w w') : Rd B N w' g s := by
  obtain ⟨a, c, i, F, er, ⟨h0, h1, h2⟩, ⟨z1, z2⟩, ⟨hh, hr⟩, ⟨ha, hg, hB⟩, hi, hs⟩ := h
  exact ⟨a, c, i, F, er, ⟨(hb.cell (p := ⟨g, 0, none⟩) hg).trans h0, (hb.cell (p := ⟨g, 1, none⟩) hg).trans h1, (hb.cell (p := ⟨g, 2, none⟩) hg).trans h2⟩, ⟨(hb.frozen (p := ⟨g, 1, none⟩) hg).trans z1, (hb.frozen (p := ⟨g, 2, none⟩) hg).trans z2⟩, ⟨hh, bytes_low hr hb fun x e hn => (ha x e hn).2⟩, ⟨ha, hg, Nat.le_trans hB hb.size⟩, hi, hs⟩
theorem Rd.later {B N : Nat} {w w' : World} {g : Nat} {s : St} (h : Rd B N w g s) (hb : Below w.heap.size w w') : Rd B N w' g s := h.low (hb.mono h.base.2)
theorem Rd.byt {B N : Nat} {w : World} {g : Nat} {b : Bs} (h : Rd B N w g (.good b)) : Byt b ∧ b.length ≤ 20000 := by
  obtain ⟨a, c, i, F, er, _, _, ⟨hh, hr⟩, ha, hi, ⟨h1, h2, h3⟩⟩ := h
  refine ⟨fun x hx => ?_, by omega⟩
  obtain ⟨j, hj⟩ := List.mem_iff_getElem?.mp hx
  have hl : j < b.length := by
    rcases Nat.lt_or_ge j b.length with h | h
    · exact h
    · rw [List.getElem?_eq_none h] at hj; cases hj
  rw [gF_get hl, h3 j (by omega)] at hj
  cases hj
  exact hr.1 _
theorem apart_set {w w' : World} {g o : Nat} {v : Value} (h : Below w.heap.size w w') : Apart (G1 g) w (w'.setCell ⟨g, o, none⟩ v) :=
  ⟨h.os, h.tape, h.output, by have := h.size; simp; omega, fun j hj hn => (Below.heap_setCell _ _ _ _ (by simp only [ne_eq]; intro e; exact hn e)).trans (h.block j hj)⟩
theorem Apart.then {O : Nat → Prop} {w w1 w2 : World} (h : Apart O w w1) (hb : Below w1.heap.size w1 w2) : Apart O w w2 := h.trans (Apart.of_below (O := fun _ => False) hb) fun _ h => h.elim
theorem gF_replicate (n i : Nat) : gF (List.replicate n (0 : Int)) i = 0 := by
  unfold gF
  rw [List.getD_eq_getElem?_getD, List.getElem?_replicate]
  split <;> rfl
theorem gF_take {b : Bs} {n j : Nat} (h : j < n) : gF (b.take n) j = gF b j := by
  unfold gF
  rw [List.getD_eq_getElem?_getD, List.getD_eq_getElem?_getD, List.getElem?_take_of_lt h]
theorem gF_drop {b : Bs} {n j : Nat} : gF (b.drop n) j = gF b (j + n) := by
  unfold gF
  rw [List.getD_eq_getElem?_getD, List.getD_eq_getElem?_getD, List.getElem?_drop, Nat.add_comm]
/-- An error is met. -/
theorem rd_set {B N : Nat} {w w0 : World} {g : Nat} {b : Bs} (h : Rd B N w g (.good b)) (hb : Below w.heap.size w w0) (er : Int) (he : er = 2 ∨ er = 4) : Rd B N (w0.setCell ⟨g, 2, none⟩ (.int .i64 er)) g (.bad er) := by
  obtain ⟨a, c, i, F, e0, ⟨h0, h1, h2⟩, ⟨z1, z2⟩, ⟨hh, hr⟩, ha, hi, hs⟩ := h.later hb
  refine ⟨a, c, i, F, er, ⟨?_, ?_, World.cell?_setCell_same _ _ _ h2⟩, ⟨by simpa using z1, by simpa using z2⟩, ⟨hh, bytes_set9 hr (fun b off e hn => (ha.1 _ e hn).1) 2 _⟩, ⟨ha.1, ha.2.1, by simpa using ha.2.2⟩, hi, rfl, he⟩
  · exact (World.cell?_setCell_other _ _ _ _ (by simp)).trans h0
  · exact (World.cell?_setCell_other _ _ _ _ (by simp)).trans h1
/-- So many are taken. -/
theorem rd_moved {B N : Nat} {w w0 w2 : World} {g : Nat} {a : Option Addr} {c i n : Nat} {F : Nat → Int} {b : Bs} (hb : Below w.heap.size w w0) (HC : w.cell? ⟨g, 0, none⟩ = some (.slice a N c) ∧ w.cell? ⟨g, 1, none⟩ = some (.int .i64 (i : Nat)) ∧ w.cell? ⟨g, 2, none⟩ = some (.int .i64 0) ∧ w.frozen? ⟨g, 1, none⟩ = false ∧ w.frozen? ⟨g, 2, none⟩ = false)
    (HH : Head a N c ∧ Bytes w a N F) (HA : (∀ x, a = some x → N ≠ 0 → x.block ≠ g ∧ x.block < B) ∧ g < B ∧ B ≤ w.heap.size) (HF : b.length = N - i ∧ ∀ j, j < N - i → gF b j = F (j + i)) (hk : i + n ≤ N) (hN : N ≤ 20000) (h2 : Below (w0.setCell ⟨g, 1, none⟩ (.int .i64 ((i : Int) + n))).heap.size (w0.setCell ⟨g, 1, none⟩ (.int .i64 ((i : Int) + n))) w2) :
    (Head (fromA a c i) n (c - i) ∧ Bytes w2 (fromA a c i) n (gF (b.take n))) ∧ (∀ x, fromA a c i = some x → n ≠ 0 → x.block ≠ g) ∧ Rd B N w2 g (.good (b.drop n)) ∧ Apart (G1 g) w w2 := by
  obtain ⟨h0, h1, he, z1, z2⟩ := HC
  have hg : g < w.heap.size := World.block_lt_of_cell? w ⟨g, 0, none⟩ h0
  have hg0 : g < w0.heap.size := Nat.lt_of_lt_of_le hg hb.size
  have F1 : Bytes (w0.setCell ⟨g, 1, none⟩ (.int .i64 ((i : Int) + n))) a N F := bytes_set9 (HH.2.later hb) (fun b off e hn => (HA.1 _ e hn).1) 1 _
  have F2 := F1.later h2
  have bd : ∀ j, 0 ≤ gF (b.take n) j ∧ gF (b.take n) j < 256 := fun j => by
    rcases Nat.lt_or_ge j n with h | h
    · rw [gF_take h, HF.2 j (by omega)]; exact HH.2.1 _
    · unfold gF; rw [List.getD_eq_getElem?_getD, List.getElem?_eq_none (by rw [List.length_take]; omega)]; decide
  refine ⟨⟨⟨by have := HH.1.1; omega, fun e => by have := HH.1.2 (fromA_nil e); omega⟩, bd, ?_⟩, fun x e hn0 => ?_, ?_, (apart_set hb).then h2⟩
  · refine (fromA_part F2 HH.1 hk).2.imp id fun ⟨q, off, e, hc⟩ => ⟨q, off, e, fun j hj => ?_⟩
    rw [gF_take hj, HF.2 j (by omega)]
    exact hc j hj
  · obtain ⟨y, e1, e2⟩ := fromA_block e
    rw [e2]; exact (HA.1 y e1 (by omega)).1
  · refine Rd.later ?_ h2
    refine ⟨a, c, i + n, F, 0, ⟨?_, ?_, ?_⟩, ⟨?_, ?_⟩, ⟨HH.1, F1⟩, ⟨HA.1, HA.2.1, by have := HA.2.2; have := hb.size; simp; omega⟩, ⟨hk, hN⟩, rfl, by rw [List.length_drop]; omega, fun j hj => ?_⟩
    · exact (World.cell?_setCell_other _ _ _ _ (by simp)).trans (cell_later' h0 hb)
    · rw [World.cell?_setCell_same _ _ _ (cell_later' h1 hb), Int.natCast_add]
    · exact (World.cell?_setCell_other _ _ _ _ (by simp)).trans (cell_later' he hb)
    · have := (hb.frozen (p := ⟨g, 1, none⟩) hg).trans z1; simpa using this
    · have := (hb.frozen (p := ⟨g, 2, none⟩) hg).trans z2; simpa using this
    · rw [gF_drop, HF.2 (j + n) (by omega)]; congr 1; omega
theorem zeros_new (w : World) (n : Nat) : Head (some ⟨w.heap.size, 0, none⟩) n n ∧ Bytes (w.alloc (.cells (madeCells #[.int .u8 0] n) 5)) (some ⟨w.heap.size, 0, none⟩) n (gF (List.replicate n 0)) := by
  refine ⟨⟨Nat.le_refl _, fun e => by cases e⟩, fun i => by rw [gF_replicate]; decide, .inr ⟨_, _, rfl, fun i hi => ?_⟩⟩
  rw [Nat.zero_add, gF_replicate]
  refine new_cell' w _ _ i _ ?_
  simp [madeCells, hi, Nat.mod_one]
set_option maxRecDepth 100000 in
set_option maxHeartbeats 2000000 in
theorem rd_take {B N : Nat} {w : World} {g : Nat} {s : St} (h : Rd B N w g s) (n : Nat) (hn : n ≤ 65535) :
    Calls Try.prog 36 #[.pointer (some ⟨g, 0, none⟩), .int .i64 n] w fun e w' => ∃ a c, e = .returned (.slice a n c) ∧ (Head a n c ∧ Bytes w' a n (gF (takeR n s).1)) ∧ (∀ x, a = some x → n ≠ 0 → x.block ≠ g) ∧ Rd B N w' g (takeR n s).2 ∧ Apart (G1 g) w w' := by
  have hg := h.lt
  have HR : Hid (Rd B N w g s) := h
  obtain ⟨a, c, i, F, er, ⟨h0, h1, h2⟩, ⟨z1, z2⟩, ⟨hh, hr⟩, ha, ⟨hi, hN⟩, hs⟩ := h
  have HH : Hid (Head a N c ∧ Bytes w a N F) := ⟨hh, hr⟩
  have HA : Hid ((∀ x, a = some x → N ≠ 0 → x.block ≠ g ∧ x.block < B) ∧ g < B ∧ B ≤ w.heap.size) := ha
  have HG : Hid (g < w.heap.size) := hg
  have hi' : (i : Int) ≤ 20000 := by omega
  have hN' : (N : Int) ≤ 20000 := by omega
  have hn' : (n : Int) ≤ 65535 := by omega
  obtain ⟨i0, hi0, hz0, hz1, hz2⟩ := info_parts slB
  have hmk : ∀ w, (Instr.makeSlice 29 (.int .i64 n) (.int .i64 n)).run Try.prog w = .ok (.slice (some ⟨w.heap.size, 0, none⟩) n n) (w.alloc (.cells (madeCells #[.int .u8 0] n) 5)) := by
    intro w
    have h := run_make (P := Try.prog) w 29 5 i0 _ Try.underlying29 hi0 hz0 .i64 .i64 n n (by omega) (Int.le_refl _) (by rw [hz2]; omega) (by omega)
    simp only [hz1, Int.toNat_natCast, Nat.mul_one] at h
    exact h
  clear hi0 hz0 hz1 hz2 hh hr ha hg
  cases s with
  | bad e =>
    obtain ⟨rfl, he⟩ := hs
    have ne : (er == 0) = false := by rcases he with rfl | rfl <;> rfl
    have fin : ∀ W, Below w.heap.size w W → ∃ a c, Ending.returned (.slice (some ⟨W.heap.size, 0, none⟩) n n) = .returned (.slice a n c) ∧ (Head a n c ∧ Bytes (W.alloc (.cells (madeCells #[.int .u8 0] n) 5)) a n (gF (List.replicate n 0))) ∧ (∀ x, a = some x → n ≠ 0 → x.block ≠ g) ∧ Rd B N (W.alloc (.cells (madeCells #[.int .u8 0] n) 5)) g (.bad er) ∧ Apart (G1 g) w (W.alloc (.cells (madeCells #[.int .u8 0] n) 5)) := fun W hW => by
      have hb := keep_alloc8 hW (.cells (madeCells #[.int .u8 0] n) 5)
      refine ⟨_, _, rfl, zeros_new W n, fun x e hn0 => ?_, HR.out.later hb, Apart.of_below hb⟩
      cases e
      have := HG.out
      have := hW.size
      show W.heap.size ≠ g
      omega
    have FN : Hid (∀ W, Below w.heap.size w W → ∃ a c, Ending.returned (.slice (some ⟨W.heap.size, 0, none⟩) n n) = .returned (.slice a n c) ∧ (Head a n c ∧ Bytes (W.alloc (.cells (madeCells #[.int .u8 0] n) 5)) a n (gF (List.replicate n 0))) ∧ (∀ x, a = some x → n ≠ 0 → x.block ≠ g) ∧ Rd B N (W.alloc (.cells (madeCells #[.int .u8 0] n) 5)) g (.bad er) ∧ Apart (G1 g) w (W.alloc (.cells (madeCells #[.int .u8 0] n) 5))) := fin
    clear fin he
    go_enter Try.func36, Try.ntmps36
    go_upto_region 1 with fail
    go_quiet (fail)
    go_wp2
    go_ret
    exact FN.out _ (below_drewN (Below.refl _ _) _)
  | good b =>
    obtain ⟨rfl, hl, hf⟩ := hs
    by_cases hk : i + n ≤ N
    · have et : takeR n (.good b) = (b.take n, .good (b.drop n)) := by unfold takeR; dsimp only; rw [if_pos (by omega)]
      rw [et]
      have hk1 : ¬ (N : Int) < (i : Int) + n := by omega
      have hk2 : (i : Int) + n ≤ N := by omega
      have S1 : ∀ W, (Instr.slice 29 (.slice a N c) (some (.int .i64 (i : Int))) (some (.int .i64 ((i : Int) + n))) none).run Try.prog W = .ok (.slice (fromA a c i) n (c - i)) W := fun W => slice_mid W a N c i n (by have := HH.out.1.1; omega)
      have HF : Hid (b.length = N - i ∧ ∀ j, j < N - i → gF b j = F (j + i)) := ⟨hl, hf⟩
      have HC : Hid (w.cell? ⟨g, 0, none⟩ = some (.slice a N c) ∧ w.cell? ⟨g, 1, none⟩ = some (.int .i64 (i : Nat)) ∧ w.cell? ⟨g, 2, none⟩ = some (.int .i64 0) ∧ w.frozen? ⟨g, 1, none⟩ = false ∧ w.frozen? ⟨g, 2, none⟩ = false) := ⟨h0, h1, h2, z1, z2⟩
      have HI : Hid (i + n ≤ N ∧ N ≤ 20000) := ⟨hk, hN⟩
      have FN : Hid (∀ w0 w2, Below w.heap.size w w0 → Below (w0.setCell ⟨g, 1, none⟩ (.int .i64 ((i : Int) + n))).heap.size (w0.setCell ⟨g, 1, none⟩ (.int .i64 ((i : Int) + n))) w2 → ∃ a' c', Ending.returned (.slice (fromA a c i) n (c - i)) = .returned (.slice a' n c') ∧ (Head a' n c' ∧ Bytes w2 a' n (gF (b.take n))) ∧ (∀ x, a' = some x → n ≠ 0 → x.block ≠ g) ∧ Rd B N w2 g (.good (b.drop n)) ∧ Apart (G1 g) w w2) := fun w0 w2 k1 k2 => by
        obtain ⟨q1, q2, q3, q4⟩ := rd_moved k1 HC.out HH.out HA.out HF.out HI.out.1 HI.out.2 k2
        exact ⟨_, _, rfl, q1, q2, q3, q4⟩
      clear hl hf hmk
      go_enter Try.func36, Try.ntmps36
      go_upto_region 1 with fail
      go_quiet (fail)
      go_wp2
      go_quiet (fail)
      go_wp2
      go_ret
      exact FN.out _ _ (below_drewN (Below.refl _ _) _) (below_drewN (Below.refl _ _) _)
    · have et : takeR n (.good b) = (List.replicate n 0, .bad 2) := by unfold takeR; dsimp only; rw [if_neg (by omega)]
      rw [et]
      have hk1 : (N : Int) < (i : Int) + n := by omega
      have FN : Hid (∀ w0, Below w.heap.size w w0 → ∀ p, p = (w0.setCell ⟨g, 2, none⟩ (.int .i64 2)).heap.size → ∃ a' c', Ending.returned (.slice (some ⟨p, 0, none⟩) n n) = .returned (.slice a' n c') ∧ (Head a' n c' ∧ Bytes ((w0.setCell ⟨g, 2, none⟩ (.int .i64 2)).alloc (.cells (madeCells #[.int .u8 0] n) 5)) a' n (gF (List.replicate n 0))) ∧ (∀ x, a' = some x → n ≠ 0 → x.block ≠ g) ∧ Rd B N ((w0.setCell ⟨g, 2, none⟩ (.int .i64 2)).alloc (.cells (madeCells #[.int .u8 0] n) 5)) g (.bad 2) ∧ Apart (G1 g) w ((w0.setCell ⟨g, 2, none⟩ (.int .i64 2)).alloc (.cells (madeCells #[.int .u8 0] n) 5))) := fun w0 k1 p hp => by
        subst hp
        have q1 := rd_set HR.out k1 2 (.inl rfl)
        have up := keep_alloc8 (Below.refl _ (w0.setCell ⟨g, 2, none⟩ (.int .i64 2))) (.cells (madeCells #[.int .u8 0] n) 5)
        refine ⟨_, _, rfl, zeros_new _ n, fun x e hn0 => ?_, q1.later up, (apart_set k1).then up⟩
        cases e
        have := q1.lt
        show (w0.setCell ⟨g, 2, none⟩ (.int .i64 2)).heap.size ≠ g
        omega
      clear hl hf
      go_enter Try.func36, Try.ntmps36
      go_upto_region 1 with fail
      go_quiet (fail)
      go_wp2
      go_ret
      exact FN.out _ (below_drewN (Below.refl _ _) _) _ (by simp)
/-- The document's number of a list's bytes. -/
theorem rget_list {w : World} {a : Option Addr} {k c : Nat} {l : Bs} (hl : l.length = k) (h : Bytes w a k (gF l)) (k1 : 1 ≤ k) (k4 : k ≤ 4) :
    Calls Try.prog 74 #[.slice a k c] w fun e w' => e = .returned (.int .u32 (sumL l)) ∧ Below w.heap.size w w' := by
  rw [sumL_gF, hl]
  obtain ⟨hf, h0 | ⟨b, off, rfl, hc⟩⟩ := h
  · omega
  · have h := rget_any w b off k c (gF l) (by omega) (fun i hi _ => hc i hi) hf
    rwa [Nat.min_eq_left k4] at h
theorem takeR_byt (n : Nat) (s : St) (h : ∀ b, s = .good b → Byt b) : Byt (takeR n s).1 := by
  cases s with
  | bad e => intro x hx; simp [takeR] at hx; omega
  | good b =>
    unfold takeR
    dsimp only
    split
    · exact fun x hx => h b rfl x (List.mem_of_mem_take hx)
    · intro x hx; simp at hx; omega
theorem numR_bd {n : Nat} {s : St} (h : ∀ b, s = .good b → Byt b) : 0 ≤ (numR n s).1 ∧ (numR n s).1 < 256 ^ n := by
  have := sumL_bd _ (takeR_byt n s h)
  rwa [take_len] at this
theorem Rd.good_byt {B N : Nat} {w : World} {g : Nat} {s : St} (h : Rd B N w g s) : ∀ b, s = .good b → Byt b := fun b e => by subst e; exact h.byt.1
theorem rd_num {B N : Nat} {w : World} {g : Nat} {s : St} (h : Rd B N w g s) (n : Nat) (n1 : 1 ≤ n) (n4 : n ≤ 4) :
    Calls Try.prog 39 #[.pointer (some ⟨g, 0, none⟩), .int .i64 n] w fun e w' => e = .returned (.int .i64 (numR n s).1) ∧ Rd B N w' g (numR n s).2 ∧ Apart (G1 g) w w' := by
  have TK : Hid (Calls Try.prog 36 #[.pointer (some ⟨g, 0, none⟩), .int .i64 n] w fun e w' => ∃ a c, e = .returned (.slice a n c) ∧ (Head a n c ∧ Bytes w' a n (gF (takeR n s).1)) ∧ (∀ x, a = some x → n ≠ 0 → x.block ≠ g) ∧ Rd B N w' g (takeR n s).2 ∧ Apart (G1 g) w w') := rd_take h n (by omega)
  have GT : Hid (∀ W a c, Bytes W a n (gF (takeR n s).1) → Calls Try.prog 74 #[.slice a n c] W fun e w' => e = .returned (.int .u32 (numR n s).1) ∧ Below W.heap.size W w') := fun W a c hb => rget_list (take_len n s) hb n1 n4
  have bd := numR_bd (n := n) h.good_byt
  have b4 : (256 : Int) ^ n ≤ 4294967296 := by rcases (by omega : n = 1 ∨ n = 2 ∨ n = 3 ∨ n = 4) with rfl | rfl | rfl | rfl <;> decide
  have hw := wrap_small bd.1 (by omega : (numR n s).1 < 4294967296)
  show Calls _ _ _ _ fun e w' => e = .returned (.int .i64 (numR n s).1) ∧ Rd B N w' g (takeR n s).2 ∧ Apart (G1 g) w w'
  generalize (numR n s).1 = y at *
  clear h bd b4
  go_enter Try.func39, Try.ntmps39
  go_wp2_with (first
    | (go_at_call 36; refine TK.out.mono ?_; rintro e w1 ⟨a, c, rfl, ⟨hh, hb⟩, ha, hr1, hA1⟩)
    | (go_at_call 74; refine (GT.out _ _ _ hb).mono ?_; rintro e w2 ⟨rfl, hb2⟩))
  go_ret
  exact ⟨rfl, hr1.later hb2, hA1.then hb2⟩
theorem rd_must {B N : Nat} {w : World} {g : Nat} {s : St} (h : Rd B N w g s) (b : Bool) :
    Calls Try.prog 35 #[.pointer (some ⟨g, 0, none⟩), .bool b] w fun e w' => e = .returned (.tuple #[]) ∧ Rd B N w' g (mustR b s).2 ∧ Apart (G1 g) w w' := by
  have HR : Hid (Rd B N w g s) := h
  obtain ⟨a, c, i, F, er, ⟨h0, h1, h2⟩, ⟨z1, z2⟩, ⟨hh, hr⟩, ha, hi, hs⟩ := h
  clear hh hr ha hi h0 h1
  cases s with
  | bad e =>
    obtain ⟨rfl, he⟩ := hs
    have ne : (er == 0) = false := by rcases he with rfl | rfl <;> rfl
    clear he
    cases b
    all_goals
      go_enter Try.func35, Try.ntmps35
      go_wp2
      go_end0
      exact ⟨rfl, HR.out, Apart.refl _ _⟩
  | good l =>
    obtain ⟨rfl, hl, hf⟩ := hs
    clear hf hl
    cases b
    · go_enter Try.func35, Try.ntmps35
      go_wp2
      go_end0
      exact ⟨rfl, rd_set HR.out (Below.refl _ _) 4 (.inr rfl), apart_set (Below.refl _ _)⟩
    · go_enter Try.func35, Try.ntmps35
      go_wp2
      go_end0
      exact ⟨rfl, HR.out, Apart.refl _ _⟩
end Go.Proofs.Ytcbhnpjaaaefiaa
