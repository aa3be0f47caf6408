/- What code.All returns of a function's words, and what is asked of its instructions: one contract a function. -/
import Derived.Test.YtnejpldbokodaaaGreatDoorChkData
import Derived.Test.YtnejpldbokodaaaGreatDoorCodePG
import Derived.Deep.RegionHeld3
import Derived.OwnWalk
namespace Go.Proofs.YtnejpldbokodaaaGreatDoor
open Go.ChangeShapes Go.WideShapes Go.ChangeAt Go.RowKit Go.Deep
set_option linter.unusedVariables false
set_option linter.unusedSimpArgs false
set_option maxRecDepth 100000

/-- The first n instructions of the words f stand at the head of block g, five cells each. -/
def RowAt (w : World) (g n : Nat) (f : Nat → Int) : Prop := ∀ i, i < n →
  w.cell? ⟨g, i * 5, none⟩ = some (.int .i64 (gO (f i))) ∧ w.cell? ⟨g, i * 5 + 1, none⟩ = some (.int .i64 (gA (f i))) ∧ w.cell? ⟨g, i * 5 + 2, none⟩ = some (.int .i64 (gB (f i))) ∧
  w.cell? ⟨g, i * 5 + 3, none⟩ = some (.int .i64 (gC (f i))) ∧ w.cell? ⟨g, i * 5 + 4, none⟩ = some (.int .i64 (gI (f i)))
theorem RowAt.later {w w' : World} {g n : Nat} {f : Nat → Int} (h : RowAt w g n f) (hb : Below w.heap.size w w') : RowAt w' g n f := fun i hi =>
  ⟨cell_later hb (h i hi).1, cell_later hb (h i hi).2.1, cell_later hb (h i hi).2.2.1, cell_later hb (h i hi).2.2.2.1, cell_later hb (h i hi).2.2.2.2⟩

theorem info23 : (Tryz.prog.info? 38).map (fun i => (i.zero, i.size, i.bytes)) = some (some (.agg #[.int .i64 0, .int .i64 0, .int .i64 0, .int .i64 0, .int .i64 0]), 5, 40) := by kernel_rfl

/-- What the loop of code.All keeps: the row of block g, so far. -/
def Made (w : World) (g len k : Nat) (f : Nat → Int) : Prop :=
  RowAt w g k f ∧ (∀ q, q < len * 5 → ∃ v, w.cell? ⟨g, q, none⟩ = some v) ∧ (∀ q, w.frozen? ⟨g, q, none⟩ = false) ∧ g < w.heap.size

/-- The world behind the five stores of one instruction, and a new block. -/
def put5 (w : World) (g o : Nat) (u0 u1 u2 u3 u4 : Value) : World :=
  (((((w.setCell ⟨g, o, none⟩ u0).setCell ⟨g, o + 1, none⟩ u1).setCell ⟨g, o + 2, none⟩ u2).setCell ⟨g, o + 3, none⟩ u3).setCell ⟨g, o + 4, none⟩ u4)
theorem sam {w : World} {a : Addr} {v u : Value} (h : w.cell? a = some u) : (w.setCell a v).cell? a = some v := World.cell?_setCell_same _ _ _ h
theorem oth {w : World} {a b : Addr} {v : Value} (h : a ≠ b) : (w.setCell a v).cell? b = w.cell? b := World.cell?_setCell_other _ _ _ _ h
theorem put5_other {w : World} {g o : Nat} {u0 u1 u2 u3 u4 : Value} {q : Nat} (h : q < o ∨ o + 5 ≤ q) : (put5 w g o u0 u1 u2 u3 u4).cell? ⟨g, q, none⟩ = w.cell? ⟨g, q, none⟩ := by
  unfold put5
  rw [oth (by simp <;> omega), oth (by simp <;> omega), oth (by simp <;> omega), oth (by simp <;> omega), oth (by simp <;> omega)]
theorem put5_at {w : World} {g o : Nat} {u0 u1 u2 u3 u4 : Value} (h : ∀ q, o ≤ q → q < o + 5 → ∃ v, w.cell? ⟨g, q, none⟩ = some v) :
    (put5 w g o u0 u1 u2 u3 u4).cell? ⟨g, o, none⟩ = some u0 ∧ (put5 w g o u0 u1 u2 u3 u4).cell? ⟨g, o + 1, none⟩ = some u1 ∧ (put5 w g o u0 u1 u2 u3 u4).cell? ⟨g, o + 2, none⟩ = some u2 ∧ (put5 w g o u0 u1 u2 u3 u4).cell? ⟨g, o + 3, none⟩ = some u3 ∧ (put5 w g o u0 u1 u2 u3 u4).cell? ⟨g, o + 4, none⟩ = some u4 := by
  obtain ⟨v0, h0⟩ := h o (by omega) (by omega)
  obtain ⟨v1, h1⟩ := h (o + 1) (by omega) (by omega)
  obtain ⟨v2, h2⟩ := h (o + 2) (by omega) (by omega)
  obtain ⟨v3, h3⟩ := h (o + 3) (by omega) (by omega)
  obtain ⟨v4, h4⟩ := h (o + 4) (by omega) (by omega)
  unfold put5
  refine ⟨?_, ?_, ?_, ?_, ?_⟩
  · rw [oth (by simp), oth (by simp), oth (by simp), oth (by simp)]; exact sam (u := v0) h0
  · rw [oth (by simp), oth (by simp), oth (by simp)]; exact sam (u := v1) (by rw [oth (by simp)]; exact h1)
  · rw [oth (by simp), oth (by simp)]; exact sam (u := v2) (by rw [oth (by simp), oth (by simp)]; exact h2)
  · rw [oth (by simp)]; exact sam (u := v3) (by rw [oth (by simp), oth (by simp), oth (by simp)]; exact h3)
  · exact sam (u := v4) (by rw [oth (by simp), oth (by simp), oth (by simp), oth (by simp)]; exact h4)
theorem put5_any {w : World} {g o : Nat} {u0 u1 u2 u3 u4 : Value} {q : Addr} {v : Value} (h : w.cell? q = some v) : ∃ v', (put5 w g o u0 u1 u2 u3 u4).cell? q = some v' := by
  unfold put5
  obtain ⟨v0, h0⟩ := cell?_setCell_some (p := ⟨g, o, none⟩) (x := u0) h
  obtain ⟨v1, h1⟩ := cell?_setCell_some (p := ⟨g, o + 1, none⟩) (x := u1) h0
  obtain ⟨v2, h2⟩ := cell?_setCell_some (p := ⟨g, o + 2, none⟩) (x := u2) h1
  obtain ⟨v3, h3⟩ := cell?_setCell_some (p := ⟨g, o + 3, none⟩) (x := u3) h2
  exact cell?_setCell_some (p := ⟨g, o + 4, none⟩) (x := u4) h3
theorem put5_size {w : World} {g o : Nat} {u0 u1 u2 u3 u4 : Value} : (put5 w g o u0 u1 u2 u3 u4).heap.size = w.heap.size := by unfold put5; simp
theorem put5_frozen {w : World} {g o : Nat} {u0 u1 u2 u3 u4 : Value} (q : Addr) : (put5 w g o u0 u1 u2 u3 u4).frozen? q = w.frozen? q := by unfold put5; simp
theorem put5_below {B : Nat} {a w : World} (h : Below B a w) {g : Nat} (hg : B ≤ g) (o : Nat) (u0 u1 u2 u3 u4 : Value) : Below B a (put5 w g o u0 u1 u2 u3 u4) :=
  ((((h.setCell (p := ⟨g, o, none⟩) hg u0).setCell (p := ⟨g, o + 1, none⟩) hg u1).setCell (p := ⟨g, o + 2, none⟩) hg u2).setCell (p := ⟨g, o + 3, none⟩) hg u3).setCell (p := ⟨g, o + 4, none⟩) hg u4

theorem Made.later {w w' : World} {g len k : Nat} {f : Nat → Int} (h : Made w g len k f) (hb : Below w.heap.size w w') : Made w' g len k f :=
  ⟨h.1.later hb, fun q hq => by obtain ⟨v, hv⟩ := h.2.1 q hq; exact ⟨v, cell_later hb hv⟩, fun q => (hb.frozen (p := ⟨g, q, none⟩) h.2.2.2).trans (h.2.2.1 q), Nat.lt_of_lt_of_le h.2.2.2 hb.size⟩
theorem Made.step {w : World} {g len k : Nat} {f : Nat → Int} (h : Made w g len k f) (hk : k < len) (o : Obj) :
    Made ((put5 w g (k * 5) (.int .i64 (gO (f k))) (.int .i64 (gA (f k))) (.int .i64 (gB (f k))) (.int .i64 (gC (f k))) (.int .i64 (gI (f k)))).alloc o) g len (k + 1) f := by
  refine Made.later (w := put5 w g (k * 5) (.int .i64 (gO (f k))) (.int .i64 (gA (f k))) (.int .i64 (gB (f k))) (.int .i64 (gC (f k))) (.int .i64 (gI (f k)))) ?_ ((Below.refl _ _).alloc (Nat.le_refl _) _)
  obtain ⟨h1, h2, h3, h4⟩ := h
  refine ⟨?_, ?_, ?_, ?_⟩
  · intro i hi
    by_cases e : i < k
    · obtain ⟨c0, c1, c2, c3, c4⟩ := h1 i e
      exact ⟨(put5_other (by omega)).trans c0, (put5_other (by omega)).trans c1, (put5_other (by omega)).trans c2, (put5_other (by omega)).trans c3, (put5_other (by omega)).trans c4⟩
    · obtain rfl : i = k := by omega
      exact put5_at (fun q hq hq' => h2 q (by omega))
  · intro q hq
    obtain ⟨v, hv⟩ := h2 q hq
    exact put5_any hv
  · intro q; rw [put5_frozen]; exact h3 q
  · rw [put5_size]; exact h4
theorem Made.start (w : World) (len : Nat) (f : Nat → Int) : Made (w.alloc (.cells (madeCells #[.int .i64 0, .int .i64 0, .int .i64 0, .int .i64 0, .int .i64 0] (len * 5)) 38)) w.heap.size len 0 f := by
  refine ⟨fun i hi => by omega, fun q hq => ?_, fun q => by simp [go_sem], by simp⟩
  have hs : q < (madeCells #[Value.int .i64 0, .int .i64 0, .int .i64 0, .int .i64 0, .int .i64 0] (len * 5)).size := by rw [size_madeCells]; exact hq
  exact ⟨_, new_cell' w _ 38 q _ (Array.getElem?_eq_getElem hs)⟩

set_option maxHeartbeats 1000000 in
theorem all_any (w : World) (b off len cap n : Nat) (f : Nat → Int) (hm : len ≤ 5000) (hT : Tab w) (hf : ∀ i, 0 ≤ f i ∧ f i < 4294967296)
    (hc : ∀ i, i < len → w.cell? ⟨b, off + i, none⟩ = some (.int .u32 (f i))) (hok : ∀ i, i < n → okG (f i) = true) (hn : n ≤ len) (hbad : n < len → okG (f n) = false) :
    Calls Tryz.prog 43 #[.slice (some ⟨b, off, none⟩) len cap] w fun e w' => ((n = len ∧ e = .returned (.tuple #[.slice (some ⟨w.heap.size, 0, none⟩) len len, .int .i64 (-1)]) ∧ Made w' w.heap.size len len f) ∨ (n < len ∧ e = .returned (.tuple #[.slice none 0 0, .int .i64 n]))) ∧ Below w.heap.size w w' := by
  obtain ⟨i0, hi, hz0, hz1, hz2⟩ := info_parts info23
  have hmk : ∀ w, (Instr.makeSlice 54 (.int .i64 (len : Int)) (.int .i64 (len : Int))).run Tryz.prog w = .ok (.slice (some ⟨w.heap.size, 0, none⟩) len len) (w.alloc (.cells (madeCells #[.int .i64 0, .int .i64 0, .int .i64 0, .int .i64 0, .int .i64 0] (len * 5)) 38)) := by
    intro w
    have h := run_make (P := Tryz.prog) w 54 38 i0 _ Tryz.underlying54 hi hz0 .i64 .i64 len len (by omega) (Int.le_refl _) (by rw [hz2]; omega) (by omega)
    simp only [Int.toNat_natCast, hz1] at h
    exact h
  have HT : Hid (Tab w) := hT
  have HC : Hid (∀ i, i < len → w.cell? ⟨b, off + i, none⟩ = some (.int .u32 (f i))) := hc
  have HF : Hid (∀ i, 0 ≤ f i ∧ f i < 4294967296) := hf
  have HO : Hid (∀ i, i < n → okG (f i) = true) := hok
  have HN : Hid (n < len → okG (f n) = false) := hbad
  clear hT hc hf hok hbad
  go_enter Tryz.func43, Tryz.ntmps43
  go_wp2
  go_loopw [14] (fun i wr => ∃ k : Nat, k ≤ n ∧ i = .int .i64 k ∧ Made wr w.heap.size len k f ∧ Below w.heap.size w wr) (fun i _ => len - (intOf i).toNat)
  case atStart => exact ⟨0, by omega, rfl, Made.start w len f, (Below.refl _ _).alloc (Nat.le_refl _) _⟩
  case round =>
    obtain ⟨k, hk, rfl, hmade, hbel⟩ := hrel
    have HM : Hid (Made wr w.heap.size len k f) := hmade
    have HB : Hid (Below w.heap.size w wr) := hbel
    clear hmade hbel
    by_cases hlt : k < len
    · have c1 := cell_later HB.out (HC.out k hlt)
      have hfk := HF.out k
      by_cases hkn : k < n
      · have HG : Hid (∀ wx, Tab wx → Calls Tryz.prog 55 #[.int .u32 (f k)] wx fun e w' => e = .returned (.tuple #[.agg #[.int .i64 (gO (f k)), .int .i64 (gA (f k)), .int .i64 (gB (f k)), .int .i64 (gC (f k)), .int .i64 (gI (f k))], .int .i64 0]) ∧ Below wx.heap.size wx w') := by
          intro wx hx
          have := get_all (f k) wx hfk.1 hfk.2 hx
          rw [if_pos (HO.out k hkn)] at this; exact this
        go_wp2_with fail
        refine Calls.mono (HG.out _ (HT.out.later HB.out)) ?_
        rintro e w1 ⟨rfl, hb1⟩
        have HM1 : Hid (Made w1 w.heap.size len k f) := HM.out.later hb1
        have HB1 : Hid (Below w.heap.size w w1) := HB.out.trans (hb1.mono HB.out.size)
        obtain ⟨v0, d0⟩ := HM1.out.2.1 (k * 5) (by omega)
        obtain ⟨v1, d1⟩ := HM1.out.2.1 (k * 5 + 1) (by omega)
        obtain ⟨v2, d2⟩ := HM1.out.2.1 (k * 5 + 2) (by omega)
        obtain ⟨v3, d3⟩ := HM1.out.2.1 (k * 5 + 3) (by omega)
        obtain ⟨v4, d4⟩ := HM1.out.2.1 (k * 5 + 4) (by omega)
        have hfr := HM1.out.2.2.1
        have hs := HM1.out.2.2.2
        clear hb1 c1 hfk
        go_wp2
        go_roundw
        case rel => exact ⟨k + 1, by omega, by go_num, HM1.out.step hlt _, (put5_below HB1.out (Nat.le_refl _) _ _ _ _ _ _).alloc (by rw [put5_size]; exact HB1.out.size) _⟩
        case measure => simp [intOf]; omega
      · obtain rfl : k = n := by omega
        have HG : Hid (∀ wx, Tab wx → Calls Tryz.prog 55 #[.int .u32 (f k)] wx fun e w' => e = .returned (.tuple #[.agg #[.int .i64 0, .int .i64 0, .int .i64 0, .int .i64 0, .int .i64 0], .int .i64 3]) ∧ Below wx.heap.size wx w') := by
          intro wx hx
          have := get_all (f k) wx hfk.1 hfk.2 hx
          rw [if_neg (by rw [HN.out hlt]; decide)] at this; exact this
        go_wp2_with fail
        refine Calls.mono (HG.out _ (HT.out.later HB.out)) ?_
        rintro e w1 ⟨rfl, hb1⟩
        have HB1 : Hid (Below w.heap.size w w1) := HB.out.trans (hb1.mono HB.out.size)
        clear hb1 c1 hfk
        go_wp2
        go_ret2
        exact ⟨Or.inr ⟨hlt, rfl⟩, HB1.out.alloc HB1.out.size _⟩
    · obtain rfl : k = len := by omega
      obtain rfl : k = n := by omega
      go_wp2
      go_ret2
      exact ⟨⟨rfl, HM.out⟩, HB.out⟩


theorem first_bad (l : List Int) : ∃ n, n ≤ l.length ∧ (∀ i, i < n → okG (gF l i) = true) ∧ (n < l.length → okG (gF l n) = false) := by
  induction l with
  | nil => exact ⟨0, Nat.zero_le _, (fun i h => by omega), fun h => by simp at h⟩
  | cons x l ih =>
    by_cases hx : okG x = true
    · obtain ⟨n, h1, h2, h3⟩ := ih
      refine ⟨n + 1, by simp; omega, fun i hi => ?_, fun h => ?_⟩
      · cases i with
        | zero => exact hx
        | succ i => exact h2 i (by omega)
      · exact h3 (by simpa using h)
    · exact ⟨0, Nat.zero_le _, (fun i h => by omega), fun _ => by
        show okG x = false
        cases e : okG x
        · rfl
        · exact absurd e hx⟩
theorem codes_iff {l : List Int} {n : Nat} (h1 : n ≤ l.length) (h2 : ∀ i, i < n → okG (gF l i) = true) (h3 : n < l.length → okG (gF l n) = false) : codesOk l ↔ n = l.length := by
  constructor
  · intro h
    rcases Nat.lt_or_ge n l.length with e | e
    · have := h (gF l n) (List.mem_of_getElem? (gF_get e)); rw [h3 e] at this; cases this
    · omega
  · intro e x hx
    obtain ⟨j, hj⟩ := List.mem_iff_getElem?.1 hx
    have hl := (List.getElem?_eq_some_iff.1 hj).1
    rw [gF_get hl] at hj
    cases hj
    exact h2 j (by omega)
theorem words_bd {A : Nat → Prop} {w : World} {v : Value} {l : List Int} (h : IsWords A w v l) : ∀ i, 0 ≤ gF l i ∧ gF l i < 4294967296 := fun i => by
  unfold gF
  rw [List.getD_eq_getElem?_getD]
  cases hi : l[i]? with
  | none => simp
  | some x => simp; exact h.2 x (List.mem_of_getElem? hi)
theorem all_words {A : Nat → Prop} {w : World} {v : Value} {l : List Int} (h : IsWords A w v l) (hne : l ≠ []) (hm : l.length ≤ 5000) (hT : Tab w) :
    Calls Tryz.prog 43 #[v] w fun e w' => ((codesOk l ∧ e = .returned (.tuple #[.slice (some ⟨w.heap.size, 0, none⟩) l.length l.length, .int .i64 (-1)]) ∧ RowAt w' w.heap.size l.length (gF l) ∧ w.heap.size < w'.heap.size) ∨ (¬ codesOk l ∧ ∃ k : Nat, e = .returned (.tuple #[.slice none 0 0, .int .i64 k]))) ∧ Below w.heap.size w w' := by
  obtain ⟨n, h1, h2, h3⟩ := first_bad l
  have hc := codes_iff h1 h2 h3
  obtain ⟨a, c, rfl, -, -, hl⟩ := h.1
  rcases hl with e | ⟨b, off, rfl, hx⟩
  · exact absurd e hne
  · refine (all_any w b off l.length c n (gF l) hm hT (words_bd h) (fun i hi => by have := hx i _ (gF_get hi); rw [Nat.mul_one] at this; exact this) h2 h1 h3).mono ?_
    rintro e w' ⟨⟨hn, rfl, hr⟩ | ⟨hn, rfl⟩, hb⟩
    · exact ⟨.inl ⟨hc.2 hn, rfl, hr.1, hr.2.2.2⟩, hb⟩
    · exact ⟨.inr ⟨fun h => by have := hc.1 h; omega, n, rfl⟩, hb⟩
end Go.Proofs.YtnejpldbokodaaaGreatDoor
