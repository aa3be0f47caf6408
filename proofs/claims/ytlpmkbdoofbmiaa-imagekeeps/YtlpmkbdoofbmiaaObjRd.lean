/- The document's reader in memory, and what is taken by it. -/
import Derived.Test.YtlpmkbdoofbmiaaObjKit
import Derived.Test.YtlpmkbdoofbmiaaObjRef
import Derived.BigQuiet
namespace Go.Proofs.Ytlpmkbdoofbmiaa
open Go.ChangeShapes Go.WideShapes Go.ChangeAt Go.RowKit
set_option linter.unusedVariables false
set_option linter.unusedSimpArgs false
theorem list_gF (l : List Int) : (List.range l.length).map (gF l) = l := by
  refine List.ext_getElem? fun i => ?_
  by_cases h : i < l.length
  · rw [gF_get h]; simp [h]
  · rw [List.getElem?_eq_none (by simp; omega), List.getElem?_eq_none (by omega)]
theorem sumL_snoc (l : Bs) (x : Int) : sumL (l ++ [x]) = sumL l + x * 256 ^ l.length := by
  induction l with
  | nil => simp [sumL]
  | cons y l ih =>
    show y + 256 * sumL (l ++ [x]) = y + 256 * sumL l + x * 256 ^ (l.length + 1)
    rw [ih, Int.pow_succ, Int.mul_add, Int.add_assoc]
    congr 2
    rw [Int.mul_comm 256, Int.mul_assoc]
theorem sumL_F (f : Nat → Int) : ∀ n, sumL ((List.range n).map f) = sumZ f n
  | 0 => rfl
  | n + 1 => by rw [List.range_succ, List.map_append, List.map_singleton, sumL_snoc, sumL_F f n, List.length_map, List.length_range]; rfl
theorem sumL_gF (l : Bs) : sumL l = sumZ (gF l) l.length := by rw [← sumL_F, list_gF]
theorem textL_gF (l : Bs) : textL l = textF l.length (gF l) := by unfold textL textF; rw [list_gF]
theorem take_len (n : Nat) (s : St) : (takeR n s).1.length = n := by
  cases s with
  | bad e => simp [takeR]
  | good b =>
    unfold takeR
    dsimp only
    split
    · rw [List.length_take]; omega
    · simp
/-- The bytes left, or the first error. -/
def RdS (er : Int) (i N : Nat) (F : Nat → Int) : St → Prop
  | .good b => er = 0 ∧ b.length = N - i ∧ ∀ j, j < N - i → gF b j = F (j + i)
  | .bad e => er = e ∧ (e = 2 ∨ e = 4)
/-- The block g holds a reader that stands there; it and its bytes lie below B. -/
def Rd (B N : Nat) (w : World) (g : Nat) (s : St) : Prop :=
  ∃ a c i F er, (w.cell? ⟨g, 0, none⟩ = some (.slice a N c) ∧ w.cell? ⟨g, 1, none⟩ = some (.int .i64 (i : Nat)) ∧ w.cell? ⟨g, 2, none⟩ = some (.int .i64 er)) ∧ (w.frozen? ⟨g, 1, none⟩ = false ∧ w.frozen? ⟨g, 2, none⟩ = false) ∧
    (Head a N c ∧ Bytes w a N F) ∧ ((∀ x, a = some x → N ≠ 0 → x.block ≠ g ∧ x.block < B) ∧ g < B ∧ B ≤ w.heap.size) ∧ (i ≤ N ∧ N ≤ 20000) ∧ RdS er i N F s
abbrev G1 (g : Nat) : Nat → Prop := fun k => k = g
theorem Rd.lt {B N : Nat} {w : World} {g : Nat} {s : St} (h : Rd B N w g s) : g < w.heap.size := by
  obtain ⟨a, c, i, F, er, ⟨h0, _⟩, _⟩ := h
  exact World.block_lt_of_cell? w ⟨g, 0, none⟩ h0
theorem Rd.base {B N : Nat} {w : World} {g : Nat} {s : St} (h : Rd B N w g s) : g < B ∧ B ≤ w.heap.size := by
  obtain ⟨a, c, i, F, er, _, _, _, ⟨_, h1, h2⟩, _⟩ := h
  exact ⟨h1, h2⟩
theorem bytes_low {B : Nat} {w w' : World} {a : Option Addr} {n : Nat} {f : Nat → Int} (h : Bytes w a n f) (hb : Below B w w') (ha : ∀ x, a = some x → n ≠ 0 → x.block < B) : Bytes w' a n f :=
  ⟨h.1, h.2.imp id fun ⟨b, off, e, hc⟩ => ⟨b, off, e, fun i hi => (hb.cell (p := ⟨b, off + i, none⟩) (ha ⟨b, off, none⟩ e (by omega))).trans (hc i hi)⟩⟩
theorem bytes_set9 {w : World} {a : Option Addr} {n : Nat} {f : Nat → Int} (h : Bytes w a n f) {g : Nat} (hf : ∀ b off, a = some ⟨b, off, none⟩ → n ≠ 0 → b ≠ g) (o : Nat) (v : Value) : Bytes (w.setCell ⟨g, o, none⟩ v) a n f := by
  by_cases h0 : n = 0
  · exact ⟨h.1, .inl h0⟩
  · exact h.set (fun b off e => hf b off e h0) o v
/-- What lies below B stands. -/
theorem Rd.low {B N : Nat} {w w' : World} {g : Nat} {s : St} (h : Rd B N w g s) (hb : Below B w w') : Rd B N w' g s := by
  obtain ⟨a, c, i, F, er, ⟨h0, h1, h2⟩, ⟨z1, z2⟩, ⟨hh, hr⟩, ⟨ha, hg, hB⟩, hi, hs⟩ := h
  exact ⟨a, c, i, F, er, ⟨(hb.cell (p := ⟨g, 0, none⟩) hg).trans h0, (hb.cell (p := ⟨g, 1, none⟩) hg).trans h1, (hb.cell (p := ⟨g, 2, none⟩) hg).trans h2⟩, ⟨(hb.frozen (p := ⟨g, 1, none⟩) hg).trans z1, (hb.frozen (p := ⟨g, 2, none⟩) hg).trans z2⟩, ⟨hh, bytes_low hr hb fun x e hn => (ha x e hn).2⟩, ⟨ha, hg, Nat.le_trans hB hb.size⟩, hi, hs⟩
theorem Rd.later {B N : Nat} {w w' : World} {g : Nat} {s : St} (h : Rd B N w g s) (hb : Below w.heap.size w w') : Rd B N w' g s := h.low (hb.mono h.base.2)
theorem Rd.byt {B N : Nat} {w : World} {g : Nat} {b : Bs} (h : Rd B N w g (.good b)) : Byt b ∧ b.length ≤ 20000 := by
  obtain ⟨a, c, i, F, er, _, _, ⟨hh, hr⟩, ha, hi, ⟨h1, h2, h3⟩⟩ := h
  refine ⟨fun x hx => ?_, by omega⟩
  obtain ⟨j, hj⟩ := List.mem_iff_getElem?.mp hx
  have hl : j < b.length := by
    rcases Nat.lt_or_ge j b.length with h | h
    · exact h
    · rw [List.getElem?_eq_none h] at hj; cases hj
  rw [gF_get hl, h3 j (by omega)] at hj
  cases hj
  exact hr.1 _
theorem apart_set {w w' : World} {g o : Nat} {v : Value} (h : Below w.heap.size w w') : Apart (G1 g) w (w'.setCell ⟨g, o, none⟩ v) :=
  ⟨h.os, h.tape, h.output, by have := h.size; simp; omega, fun j hj hn => (Below.heap_setCell _ _ _ _ (by simp only [ne_eq]; intro e; exact hn e)).trans (h.block j hj)⟩
theorem Apart.then {O : Nat → Prop} {w w1 w2 : World} (h : Apart O w w1) (hb : Below w1.heap.size w1 w2) : Apart O w w2 := h.trans (Apart.of_below (O := fun _ => False) hb) fun _ h => h.elim
theorem gF_replicate (n i : Nat) : gF (List.replicate n (0 : Int)) i = 0 := by
  unfold gF
  rw [List.getD_eq_getElem?_getD, List.getElem?_replicate]
  split <;> rfl
theorem gF_take {b : Bs} {n j : Nat} (h : j < n) : gF (b.take n) j = gF b j := by
  unfold gF
  rw [List.getD_eq_getElem?_getD, List.getD_eq_getElem?_getD, List.getElem?_take_of_lt h]
theorem gF_drop {b : Bs} {n j : Nat} : gF (b.drop n) j = gF b (j + n) := by
  unfold gF
  rw [List.getD_eq_getElem?_getD, List.getD_eq_getElem?_getD, List.getElem?_drop, Nat.add_comm]
/-- An error is met. -/
theorem rd_set {B N : Nat} {w w0 : World} {g : Nat} {b : Bs} (h : Rd B N w g (.good b)) (hb : Below w.heap.size w w0) (er : Int) (he : er = 2 ∨ er = 4) : Rd B N (w0.setCell ⟨g, 2, none⟩ (.int .i64 er)) g (.bad er) := by
  obtain ⟨a, c, i, F, e0, ⟨h0, h1, h2⟩, ⟨z1, z2⟩, ⟨hh, hr⟩, ha, hi, hs⟩ := h.later hb
  refine ⟨a, c, i, F, er, ⟨?_, ?_, World.cell?_setCell_same _ _ _ h2⟩, ⟨by simpa using z1, by simpa using z2⟩, ⟨hh, bytes_set9 hr (fun b off e hn => (ha.1 _ e hn).1) 2 _⟩, ⟨ha.1, ha.2.1, by simpa using ha.2.2⟩, hi, rfl, he⟩
  · exact (World.cell?_setCell_other _ _ _ _ (by simp)).trans h0
  · exact (World.cell?_setCell_other _ _ _ _ (by simp)).trans h1
/-- So many are taken. -/
theorem rd_moved {B N : Nat} {w w0 w2 : World} {g : Nat} {a : Option Addr} {c i n : Nat} {F : Nat → Int} {b : Bs} (hb : Below w.heap.size w w0) (HC : w.cell? ⟨g, 0, none⟩ = some (.slice a N c) ∧ w.cell? ⟨g, 1, none⟩ = some (.int .i64 (i : Nat)) ∧ w.cell? ⟨g, 2, none⟩ = some (.int .i64 0) ∧ w.frozen? ⟨g, 1, none⟩ = false ∧ w.frozen? ⟨g, 2, none⟩ = false)
    (HH : Head a N c ∧ Bytes w a N F) (HA : (∀ x, a = some x → N ≠ 0 → x.block ≠ g ∧ x.block < B) ∧ g < B ∧ B ≤ w.heap.size) (HF : b.length = N - i ∧ ∀ j, j < N - i → gF b j = F (j + i)) (hk : i + n ≤ N) (hN : N ≤ 20000) (h2 : Below (w0.setCell ⟨g, 1, none⟩ (.int .i64 ((i : Int) + n))).heap.size (w0.setCell ⟨g, 1, none⟩ (.int .i64 ((i : Int) + n))) w2) :
    (Head (fromA a c i) n (c - i) ∧ Bytes w2 (fromA a c i) n (gF (b.take n))) ∧ (∀ x, fromA a c i = some x → n ≠ 0 → x.block ≠ g) ∧ Rd B N w2 g (.good (b.drop n)) ∧ Apart (G1 g) w w2 := by
  obtain ⟨h0, h1, he, z1, z2⟩ := HC
  have hg : g < w.heap.size := World.block_lt_of_cell? w ⟨g, 0, none⟩ h0
  have hg0 : g < w0.heap.size := Nat.lt_of_lt_of_le hg hb.size
  have F1 : Bytes (w0.setCell ⟨g, 1, none⟩ (.int .i64 ((i : Int) + n))) a N F := bytes_set9 (HH.2.later hb) (fun b off e hn => (HA.1 _ e hn).1) 1 _
  have F2 := F1.later h2
  have bd : ∀ j, 0 ≤ gF (b.take n) j ∧ gF (b.take n) j < 256 := fun j => by
    rcases Nat.lt_or_ge j n with h | h
    · rw [gF_take h, HF.2 j (by omega)]; exact HH.2.1 _
    · unfold gF; rw [List.getD_eq_getElem?_getD, List.getElem?_eq_none (by rw [List.length_take]; omega)]; decide
  refine ⟨⟨⟨by have := HH.1.1; omega, fun e => by have := HH.1.2 (fromA_nil e); omega⟩, bd, ?_⟩, fun x e hn0 => ?_, ?_, (apart_set hb).then h2⟩
  · refine (fromA_part F2 HH.1 hk).2.imp id fun ⟨q, off, e, hc⟩ => ⟨q, off, e, fun j hj => ?_⟩
    rw [gF_take hj, HF.2 j (by omega)]
    exact hc j hj
  · obtain ⟨y, e1, e2⟩ := fromA_block e
    rw [e2]; exact (HA.1 y e1 (by omega)).1
  · refine Rd.later ?_ h2
    refine ⟨a, c, i + n, F, 0, ⟨?_, ?_, ?_⟩, ⟨?_, ?_⟩, ⟨HH.1, F1⟩, ⟨HA.1, HA.2.1, by have := HA.2.2; have := hb.size; simp; omega⟩, ⟨hk, hN⟩, rfl, by rw [List.length_drop]; omega, fun j hj => ?_⟩
    · exact (World.cell?_setCell_other _ _ _ _ (by simp)).trans (cell_later' h0 hb)
    · rw [World.cell?_setCell_same _ _ _ (cell_later' h1 hb), Int.natCast_add]
    · exact (World.cell?_setCell_other _ _ _ _ (by simp)).trans (cell_later' he hb)
    · have := (hb.frozen (p := ⟨g, 1, none⟩) hg).trans z1; simpa using this
    · have := (hb.frozen (p := ⟨g, 2, none⟩) hg).trans z2; simpa using this
    · rw [gF_drop, HF.2 (j + n) (by omega)]; congr 1; omega
/-- The document's number of a list's bytes. -/
theorem rget_list {w : World} {a : Option Addr} {k c : Nat} {l : Bs} (hl : l.length = k) (h : Bytes w a k (gF l)) (k1 : 1 ≤ k) (k4 : k ≤ 4) :
    Calls Try.prog 35 #[.slice a k c] w fun e w' => e = .returned (.int .u32 (sumL l)) ∧ Below w.heap.size w w' := by
  rw [sumL_gF, hl]
  obtain ⟨hf, h0 | ⟨b, off, rfl, hc⟩⟩ := h
  · omega
  · have h := rget_any w b off k c (gF l) (by omega) (fun i hi _ => hc i hi) hf
    rwa [Nat.min_eq_left k4] at h
theorem takeR_byt (n : Nat) (s : St) (h : ∀ b, s = .good b → Byt b) : Byt (takeR n s).1 := by
  cases s with
  | bad e => intro x hx; simp [takeR] at hx; omega
  | good b =>
    unfold takeR
    dsimp only
    split
    · exact fun x hx => h b rfl x (List.mem_of_mem_take hx)
    · intro x hx; simp at hx; omega
theorem numR_bd {n : Nat} {s : St} (h : ∀ b, s = .good b → Byt b) : 0 ≤ (numR n s).1 ∧ (numR n s).1 < 256 ^ n := by
  have := sumL_bd _ (takeR_byt n s h)
  rwa [take_len] at this
theorem Rd.good_byt {B N : Nat} {w : World} {g : Nat} {s : St} (h : Rd B N w g s) : ∀ b, s = .good b → Byt b := fun b e => by subst e; exact h.byt.1
end Go.Proofs.Ytlpmkbdoofbmiaa
