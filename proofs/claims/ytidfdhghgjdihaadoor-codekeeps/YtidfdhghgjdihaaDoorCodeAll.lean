/- What code.All, the document's own All and Same return: one contract a function. -/
import Derived.Test.YtidfdhghgjdihaaDoorCodeFrame
import Derived.OwnWalk
namespace Go.Proofs.YtidfdhghgjdihaaDoor
open Go.ChangeShapes Go.WideShapes Go.ChangeAt Go.RowKit Go.Deep
set_option linter.unusedVariables false

/-- The first n instructions of the words f stand at the head of block g, five cells each. -/
def RowAt (w : World) (g n : Nat) (f : Nat → Int) : Prop := ∀ i, i < n →
  w.cell? ⟨g, i * 5, none⟩ = some (.int .i64 (gO (f i))) ∧ w.cell? ⟨g, i * 5 + 1, none⟩ = some (.int .i64 (gA (f i))) ∧ w.cell? ⟨g, i * 5 + 2, none⟩ = some (.int .i64 (gB (f i))) ∧
  w.cell? ⟨g, i * 5 + 3, none⟩ = some (.int .i64 (gC (f i))) ∧ w.cell? ⟨g, i * 5 + 4, none⟩ = some (.int .i64 (gI (f i)))
theorem RowAt.later {w w' : World} {g n : Nat} {f : Nat → Int} (h : RowAt w g n f) (hb : Below w.heap.size w w') : RowAt w' g n f := fun i hi =>
  ⟨cell_later hb (h i hi).1, cell_later hb (h i hi).2.1, cell_later hb (h i hi).2.2.1, cell_later hb (h i hi).2.2.2.1, cell_later hb (h i hi).2.2.2.2⟩

theorem info23 : (Tryd.prog.info? 23).map (fun i => (i.zero, i.size, i.bytes)) = some (some (.agg #[.int .i64 0, .int .i64 0, .int .i64 0, .int .i64 0, .int .i64 0]), 5, 40) := by kernel_rfl

/-- What the loop of code.All keeps: the row of block g, so far. -/
def Made (w : World) (g len k : Nat) (f : Nat → Int) : Prop :=
  RowAt w g k f ∧ (∀ q, q < len * 5 → ∃ v, w.cell? ⟨g, q, none⟩ = some v) ∧ (∀ q, w.frozen? ⟨g, q, none⟩ = false) ∧ g < w.heap.size

/-- The world behind the five stores of one instruction, and a new block. -/
def put5 (w : World) (g o : Nat) (u0 u1 u2 u3 u4 : Value) : World :=
  (((((w.setCell ⟨g, o, none⟩ u0).setCell ⟨g, o + 1, none⟩ u1).setCell ⟨g, o + 2, none⟩ u2).setCell ⟨g, o + 3, none⟩ u3).setCell ⟨g, o + 4, none⟩ u4)
theorem sam {w : World} {a : Addr} {v u : Value} (h : w.cell? a = some u) : (w.setCell a v).cell? a = some v := World.cell?_setCell_same _ _ _ h
theorem oth {w : World} {a b : Addr} {v : Value} (h : a ≠ b) : (w.setCell a v).cell? b = w.cell? b := World.cell?_setCell_other _ _ _ _ h
theorem put5_other {w : World} {g o : Nat} {u0 u1 u2 u3 u4 : Value} {q : Nat} (h : q < o ∨ o + 5 ≤ q) : (put5 w g o u0 u1 u2 u3 u4).cell? ⟨g, q, none⟩ = w.cell? ⟨g, q, none⟩ := by
  unfold put5
  rw [oth (by simp <;> omega), oth (by simp <;> omega), oth (by simp <;> omega), oth (by simp <;> omega), oth (by simp <;> omega)]
theorem put5_at {w : World} {g o : Nat} {u0 u1 u2 u3 u4 : Value} (h : ∀ q, o ≤ q → q < o + 5 → ∃ v, w.cell? ⟨g, q, none⟩ = some v) :
    (put5 w g o u0 u1 u2 u3 u4).cell? ⟨g, o, none⟩ = some u0 ∧ (put5 w g o u0 u1 u2 u3 u4).cell? ⟨g, o + 1, none⟩ = some u1 ∧ (put5 w g o u0 u1 u2 u3 u4).cell? ⟨g, o + 2, none⟩ = some u2 ∧ (put5 w g o u0 u1 u2 u3 u4).cell? ⟨g, o + 3, none⟩ = some u3 ∧ (put5 w g o u0 u1 u2 u3 u4).cell? ⟨g, o + 4, none⟩ = some u4 := by
  obtain ⟨v0, h0⟩ := h o (by omega) (by omega)
  obtain ⟨v1, h1⟩ := h (o + 1) (by omega) (by omega)
  obtain ⟨v2, h2⟩ := h (o + 2) (by omega) (by omega)
  obtain ⟨v3, h3⟩ := h (o + 3) (by omega) (by omega)
  obtain ⟨v4, h4⟩ := h (o + 4) (by omega) (by omega)
  unfold put5
  refine ⟨?_, ?_, ?_, ?_, ?_⟩
  · rw [oth (by simp), oth (by simp), oth (by simp), oth (by simp)]; exact sam (u := v0) h0
  · rw [oth (by simp), oth (by simp), oth (by simp)]; exact sam (u := v1) (by rw [oth (by simp)]; exact h1)
  · rw [oth (by simp), oth (by simp)]; exact sam (u := v2) (by rw [oth (by simp), oth (by simp)]; exact h2)
  · rw [oth (by simp)]; exact sam (u := v3) (by rw [oth (by simp), oth (by simp), oth (by simp)]; exact h3)
  · exact sam (u := v4) (by rw [oth (by simp), oth (by simp), oth (by simp), oth (by simp)]; exact h4)
theorem put5_any {w : World} {g o : Nat} {u0 u1 u2 u3 u4 : Value} {q : Addr} {v : Value} (h : w.cell? q = some v) : ∃ v', (put5 w g o u0 u1 u2 u3 u4).cell? q = some v' := by
  unfold put5
  obtain ⟨v0, h0⟩ := cell?_setCell_some (p := ⟨g, o, none⟩) (x := u0) h
  obtain ⟨v1, h1⟩ := cell?_setCell_some (p := ⟨g, o + 1, none⟩) (x := u1) h0
  obtain ⟨v2, h2⟩ := cell?_setCell_some (p := ⟨g, o + 2, none⟩) (x := u2) h1
  obtain ⟨v3, h3⟩ := cell?_setCell_some (p := ⟨g, o + 3, none⟩) (x := u3) h2
  exact cell?_setCell_some (p := ⟨g, o + 4, none⟩) (x := u4) h3
theorem put5_size {w : World} {g o : Nat} {u0 u1 u2 u3 u4 : Value} : (put5 w g o u0 u1 u2 u3 u4).heap.size = w.heap.size := by unfold put5; simp
theorem put5_frozen {w : World} {g o : Nat} {u0 u1 u2 u3 u4 : Value} (q : Addr) : (put5 w g o u0 u1 u2 u3 u4).frozen? q = w.frozen? q := by unfold put5; simp
theorem put5_below {B : Nat} {a w : World} (h : Below B a w) {g : Nat} (hg : B ≤ g) (o : Nat) (u0 u1 u2 u3 u4 : Value) : Below B a (put5 w g o u0 u1 u2 u3 u4) :=
  ((((h.setCell (p := ⟨g, o, none⟩) hg u0).setCell (p := ⟨g, o + 1, none⟩) hg u1).setCell (p := ⟨g, o + 2, none⟩) hg u2).setCell (p := ⟨g, o + 3, none⟩) hg u3).setCell (p := ⟨g, o + 4, none⟩) hg u4

theorem Made.later {w w' : World} {g len k : Nat} {f : Nat → Int} (h : Made w g len k f) (hb : Below w.heap.size w w') : Made w' g len k f :=
  ⟨h.1.later hb, fun q hq => by obtain ⟨v, hv⟩ := h.2.1 q hq; exact ⟨v, cell_later hb hv⟩, fun q => (hb.frozen (p := ⟨g, q, none⟩) h.2.2.2).trans (h.2.2.1 q), Nat.lt_of_lt_of_le h.2.2.2 hb.size⟩
theorem Made.step {w : World} {g len k : Nat} {f : Nat → Int} (h : Made w g len k f) (hk : k < len) (o : Obj) :
    Made ((put5 w g (k * 5) (.int .i64 (gO (f k))) (.int .i64 (gA (f k))) (.int .i64 (gB (f k))) (.int .i64 (gC (f k))) (.int .i64 (gI (f k)))).alloc o) g len (k + 1) f := by
  refine Made.later (w := put5 w g (k * 5) (.int .i64 (gO (f k))) (.int .i64 (gA (f k))) (.int .i64 (gB (f k))) (.int .i64 (gC (f k))) (.int .i64 (gI (f k)))) ?_ ((Below.refl _ _).alloc (Nat.le_refl _) _)
  obtain ⟨h1, h2, h3, h4⟩ := h
  refine ⟨?_, ?_, ?_, ?_⟩
  · intro i hi
    by_cases e : i < k
    · obtain ⟨c0, c1, c2, c3, c4⟩ := h1 i e
      exact ⟨(put5_other (by omega)).trans c0, (put5_other (by omega)).trans c1, (put5_other (by omega)).trans c2, (put5_other (by omega)).trans c3, (put5_other (by omega)).trans c4⟩
    · obtain rfl : i = k := by omega
      exact put5_at (fun q hq hq' => h2 q (by omega))
  · intro q hq
    obtain ⟨v, hv⟩ := h2 q hq
    exact put5_any hv
  · intro q; rw [put5_frozen]; exact h3 q
  · rw [put5_size]; exact h4
theorem Made.start (w : World) (len : Nat) (f : Nat → Int) : Made (w.alloc (.cells (madeCells #[.int .i64 0, .int .i64 0, .int .i64 0, .int .i64 0, .int .i64 0] (len * 5)) 23)) w.heap.size len 0 f := by
  refine ⟨fun i hi => by omega, fun q hq => ?_, fun q => by simp [go_sem], by simp⟩
  have hs : q < (madeCells #[Value.int .i64 0, .int .i64 0, .int .i64 0, .int .i64 0, .int .i64 0] (len * 5)).size := by rw [size_madeCells]; exact hq
  exact ⟨_, new_cell w _ 23 q _ (Array.getElem?_eq_getElem hs)⟩

set_option maxHeartbeats 1000000 in
theorem all_any (w : World) (b off len cap n : Nat) (f : Nat → Int) (hm : len ≤ 300) (hT : Tab w) (hf : ∀ i, 0 ≤ f i ∧ f i < 4294967296)
    (hc : ∀ i, i < len → w.cell? ⟨b, off + i, none⟩ = some (.int .u32 (f i))) (hok : ∀ i, i < n → okG (f i) = true) (hn : n ≤ len) (hbad : n < len → okG (f n) = false) :
    Calls Tryd.prog 16 #[.slice (some ⟨b, off, none⟩) len cap] w fun e w' => ((n = len ∧ e = .returned (.tuple #[.slice (some ⟨w.heap.size, 0, none⟩) len len, .int .i64 (-1)]) ∧ Made w' w.heap.size len len f) ∨ (n < len ∧ e = .returned (.tuple #[.slice none 0 0, .int .i64 n]))) ∧ Below w.heap.size w w' := by
  obtain ⟨i0, hi, hz0, hz1, hz2⟩ := info_parts info23
  have hmk : ∀ w, (Instr.makeSlice 37 (.int .i64 (len : Int)) (.int .i64 (len : Int))).run Tryd.prog w = .ok (.slice (some ⟨w.heap.size, 0, none⟩) len len) (w.alloc (.cells (madeCells #[.int .i64 0, .int .i64 0, .int .i64 0, .int .i64 0, .int .i64 0] (len * 5)) 23)) := by
    intro w
    have h := run_make (P := Tryd.prog) w 37 23 i0 _ Tryd.underlying37 hi hz0 .i64 .i64 len len (by omega) (Int.le_refl _) (by rw [hz2]; omega) (by omega)
    simp only [Int.toNat_natCast, hz1] at h
    exact h
  have HT : Hid (Tab w) := hT
  have HC : Hid (∀ i, i < len → w.cell? ⟨b, off + i, none⟩ = some (.int .u32 (f i))) := hc
  have HF : Hid (∀ i, 0 ≤ f i ∧ f i < 4294967296) := hf
  have HO : Hid (∀ i, i < n → okG (f i) = true) := hok
  have HN : Hid (n < len → okG (f n) = false) := hbad
  clear hT hc hf hok hbad
  go_enter Tryd.func16, Tryd.ntmps16
  go_wp2
  go_loopw [14] (fun i wr => ∃ k : Nat, k ≤ n ∧ i = .int .i64 k ∧ Made wr w.heap.size len k f ∧ Below w.heap.size w wr) (fun i _ => len - (intOf i).toNat)
  case atStart => exact ⟨0, by omega, rfl, Made.start w len f, (Below.refl _ _).alloc (Nat.le_refl _) _⟩
  case round =>
    obtain ⟨k, hk, rfl, hmade, hbel⟩ := hrel
    have HM : Hid (Made wr w.heap.size len k f) := hmade
    have HB : Hid (Below w.heap.size w wr) := hbel
    clear hmade hbel
    by_cases hlt : k < len
    · have c1 := cell_later HB.out (HC.out k hlt)
      have hfk := HF.out k
      by_cases hkn : k < n
      · have HG : Hid (∀ wx, Tab wx → Calls Tryd.prog 14 #[.int .u32 (f k)] wx fun e w' => e = .returned (.tuple #[.agg #[.int .i64 (gO (f k)), .int .i64 (gA (f k)), .int .i64 (gB (f k)), .int .i64 (gC (f k)), .int .i64 (gI (f k))], .int .i64 0]) ∧ Below wx.heap.size wx w') := by
          intro wx hx
          have := get_all (f k) wx hfk.1 hfk.2 hx
          rw [if_pos (HO.out k hkn)] at this; exact this
        go_wp2_with fail
        refine Calls.mono (HG.out _ (HT.out.later HB.out)) ?_
        rintro e w1 ⟨rfl, hb1⟩
        have HM1 : Hid (Made w1 w.heap.size len k f) := HM.out.later hb1
        have HB1 : Hid (Below w.heap.size w w1) := HB.out.trans (hb1.mono HB.out.size)
        obtain ⟨v0, d0⟩ := HM1.out.2.1 (k * 5) (by omega)
        obtain ⟨v1, d1⟩ := HM1.out.2.1 (k * 5 + 1) (by omega)
        obtain ⟨v2, d2⟩ := HM1.out.2.1 (k * 5 + 2) (by omega)
        obtain ⟨v3, d3⟩ := HM1.out.2.1 (k * 5 + 3) (by omega)
        obtain ⟨v4, d4⟩ := HM1.out.2.1 (k * 5 + 4) (by omega)
        have hfr := HM1.out.2.2.1
        have hs := HM1.out.2.2.2
        clear hb1 c1 hfk
        go_wp2
        go_roundw
        case rel => exact ⟨k + 1, by omega, by go_num, HM1.out.step hlt _, (put5_below HB1.out (Nat.le_refl _) _ _ _ _ _ _).alloc (by rw [put5_size]; exact HB1.out.size) _⟩
        case measure => simp [intOf]; omega
      · obtain rfl : k = n := by omega
        have HG : Hid (∀ wx, Tab wx → Calls Tryd.prog 14 #[.int .u32 (f k)] wx fun e w' => e = .returned (.tuple #[.agg #[.int .i64 0, .int .i64 0, .int .i64 0, .int .i64 0, .int .i64 0], .int .i64 3]) ∧ Below wx.heap.size wx w') := by
          intro wx hx
          have := get_all (f k) wx hfk.1 hfk.2 hx
          rw [if_neg (by rw [HN.out hlt]; decide)] at this; exact this
        go_wp2_with fail
        refine Calls.mono (HG.out _ (HT.out.later HB.out)) ?_
        rintro e w1 ⟨rfl, hb1⟩
        have HB1 : Hid (Below w.heap.size w w1) := HB.out.trans (hb1.mono HB.out.size)
        clear hb1 c1 hfk
        go_wp2
        go_ret2
        exact ⟨Or.inr ⟨hlt, rfl⟩, HB1.out.alloc HB1.out.size _⟩
    · obtain rfl : k = len := by omega
      obtain rfl : k = n := by omega
      go_wp2
      go_ret2
      exact ⟨⟨rfl, HM.out⟩, HB.out⟩

/-! ### The document's own All: it appends -/
def insL (x : Int) : List Value := [.int .i64 (gO x), .int .i64 (gA x), .int .i64 (gB x), .int .i64 (gC x), .int .i64 (gI x)]
def rowL (f : Nat → Int) : Nat → List Value
  | 0 => []
  | k + 1 => rowL f k ++ insL (f k)
theorem rowL_length (f : Nat → Int) : ∀ k, (rowL f k).length = k * 5
  | 0 => rfl
  | k + 1 => by simp only [rowL, List.length_append, rowL_length f k, insL, List.length_cons, List.length_nil]; omega
theorem rowL_get (f : Nat → Int) : ∀ (n i j : Nat), i < n → j < 5 → (rowL f n)[i * 5 + j]? = (insL (f i))[j]?
  | 0, i, j, h, _ => by omega
  | n + 1, i, j, h, hj => by
    simp only [rowL]
    by_cases e : i < n
    · rw [List.getElem?_append_left (by rw [rowL_length]; omega)]; exact rowL_get f n i j e hj
    · obtain rfl : i = n := by omega
      rw [List.getElem?_append_right (by rw [rowL_length]; omega), rowL_length]
      congr 1; omega
theorem row_of_owns {w : World} {base g cap n : Nat} {f : Nat → Int} (h : w.ownsRow base 23 5 (.slice (some ⟨g, 0, none⟩) n cap) n (rowL f n)) : RowAt w g n f := by
  intro i hi
  have key : ∀ j, j < 5 → w.cell? ⟨g, i * 5 + j, none⟩ = (insL (f i))[j]? := fun j hj => (h.cellAt (i * 5 + j) (by omega)).trans (rowL_get f n i j hi hj)
  exact ⟨key 0 (by omega), key 1 (by omega), key 2 (by omega), key 3 (by omega), key 4 (by omega)⟩

theorem owns_below {w w1 : World} {base e size n : Nat} {v : Value} {xs : List Value} (h : w.ownsRow base e size v n xs) (hb : Below w.heap.size w w1) : w1.ownsRow base e size v n xs :=
  h.kept (row := none) ⟨hb.os, hb.tape, hb.output, hb.size, fun k hk _ => hb.block k hk⟩ (by cases hv : v.ownBlock <;> simp)
theorem new2_cell (w : World) (o : Obj) (cs : Array Value) (t : TypeId) (j : Nat) (u : Value) (h : cs.toList[j]? = some u) : ((w.alloc o).alloc (.cells cs t)).cell? ((⟨w.heap.size + 1, 0, none⟩ : Addr).add j) = some u := by
  have e : (⟨w.heap.size + 1, 0, none⟩ : Addr).add j = ⟨w.heap.size + 1, j, none⟩ := by cases j <;> simp [Addr.add]
  have e2 : w.heap.size + 1 = (w.alloc o).heap.size := by simp
  rw [e, e2]
  exact new_cell _ _ _ j u (by simpa using h)

set_option maxHeartbeats 1000000 in
theorem rall_any (w : World) (b off len cap n : Nat) (f : Nat → Int) (hm : len ≤ 300) (hf : ∀ i, 0 ≤ f i ∧ f i < 4294967296)
    (hc : ∀ i, i < len → w.cell? ⟨b, off + i, none⟩ = some (.int .u32 (f i))) (hok : ∀ i, i < n → okG (f i) = true) (hn : n ≤ len) (hbad : n < len → okG (f n) = false) :
    Calls Tryd.prog 17 #[.slice (some ⟨b, off, none⟩) len cap] w fun e w' => ((n = len ∧ ((len = 0 ∧ e = .returned (.tuple #[.slice none 0 0, .int .i64 (-1)])) ∨ ∃ g c, e = .returned (.tuple #[.slice (some ⟨g, 0, none⟩) len c, .int .i64 (-1)]) ∧ RowAt w' g len f)) ∨ (n < len ∧ e = .returned (.tuple #[.slice none 0 0, .int .i64 n]))) ∧ Below w.heap.size w w' := by
  obtain ⟨i0, hi, hz0, hz1, hz2⟩ := info_parts info23
  have HC : Hid (∀ i, i < len → w.cell? ⟨b, off + i, none⟩ = some (.int .u32 (f i))) := hc
  have HF : Hid (∀ i, 0 ≤ f i ∧ f i < 4294967296) := hf
  have HO : Hid (∀ i, i < n → okG (f i) = true) := hok
  have HN : Hid (n < len → okG (f n) = false) := hbad
  clear hc hf hok hbad
  go_enter Tryd.func17, Tryd.ntmps17
  go_wp2
  go_loopw [4, 5] (fun v i wr => ∃ k : Nat, k ≤ n ∧ i = .int .i64 k ∧ wr.ownsRow w.heap.size 23 5 v k (rowL f k) ∧ (k = 0 → v = .slice none 0 0) ∧ Below w.heap.size w wr) (fun _ i _ => len - (intOf i).toNat)
  case atStart => exact ⟨0, by omega, rfl, World.ownsRow_nil _ _ _ _, fun _ => rfl, Below.refl _ _⟩
  case round =>
    obtain ⟨k, hk, rfl, hown, hnil, hbel⟩ := hrel
    have HW : Hid (wr.ownsRow w.heap.size 23 5 u4 k (rowL f k)) := hown
    have HNil : Hid (k = 0 → u4 = .slice none 0 0) := hnil
    have HB : Hid (Below w.heap.size w wr) := hbel
    clear hown hnil hbel
    by_cases hlt : k < len
    · have c1 := cell_later HB.out (HC.out k hlt)
      have hfk := HF.out k
      by_cases hkn : k < n
      · have HG : Hid (∀ wx, Calls Tryd.prog 15 #[.int .u32 (f k)] wx fun e w' => e = .returned (.tuple #[.agg #[.int .i64 (gO (f k)), .int .i64 (gA (f k)), .int .i64 (gB (f k)), .int .i64 (gC (f k)), .int .i64 (gI (f k))], .bool true]) ∧ Below wx.heap.size wx w') := by
          intro wx
          have := rget_all (f k) wx hfk.1 hfk.2
          unfold rgetV at this
          rw [if_pos (HO.out k hkn)] at this; exact this
        go_wp2_with fail
        refine Calls.mono (HG.out _) ?_
        rintro e w1 ⟨rfl, hb1⟩
        have HW1 := owns_below HW.out hb1
        have HB1 : Hid (Below w.heap.size w w1) := HB.out.trans (hb1.mono HB.out.size)
        have HW2 : Hid (w1.ownsRow w.heap.size 23 5 u4 k (rowL f k)) := HW1
        clear hb1 c1 hfk HW1
        go_wp2_with (at_builtin; refine wpList_append_own _ rfl _ _ 37 rfl w.heap.size 23 i0 _ 5 40 Tryd.underlying37 hi hz0 hz1 hz2 rfl (by decide) _ _ _ rfl ((HW2.out.alloc _).alloc _) ⟨w1.heap.size + 1, 0, none⟩ 1 1 (insL (f k)) rfl rfl ?c1 ?c2 ?c3 ?c4 ?c5 ?_)
        case c1 => intro j u hj; exact new2_cell _ _ _ _ j u hj
        case c2 => intro u hu; simp [insL] at hu; rcases hu with rfl | rfl | rfl | rfl | rfl <;> rfl
        case c3 => unfold maxLen; omega
        case c4 => omega
        case c5 => have := HB1.out.size; simp; omega
        intro v' w2 hown' hgrow _
        have hsz : w.heap.size ≤ ((w1.alloc (.cells #[.int .i64 (gO (f k)), .int .i64 (gA (f k)), .int .i64 (gB (f k)), .int .i64 (gC (f k)), .int .i64 (gI (f k))] 23)).alloc (.cells #[.int .i64 (gO (f k)), .int .i64 (gA (f k)), .int .i64 (gB (f k)), .int .i64 (gC (f k)), .int .i64 (gI (f k))] 23)).heap.size := by
          have := HB1.out.size; simp; omega
        have HB2 : Hid (Below w.heap.size w w2) := ((HB1.out.alloc HB1.out.size _).alloc (by have := HB1.out.size; simp; omega) _).grown hgrow hsz (fun q hq => (HW2.out.lt q hq).1)
        have HW3 : Hid (w2.ownsRow w.heap.size 23 5 v' (k + 1) (rowL f (k + 1))) := hown'
        clear hown' hgrow
        go_wp2
        go_roundw
        case rel => exact ⟨k + 1, by omega, by go_num, HW3.out, by omega, HB2.out⟩
        case measure => simp [intOf]; omega
      · obtain rfl : k = n := by omega
        have HG : Hid (∀ wx, Calls Tryd.prog 15 #[.int .u32 (f k)] wx fun e w' => e = .returned (.tuple #[.agg #[.int .i64 0, .int .i64 0, .int .i64 0, .int .i64 0, .int .i64 0], .bool false]) ∧ Below wx.heap.size wx w') := by
          intro wx
          have := rget_all (f k) wx hfk.1 hfk.2
          unfold rgetV at this
          rw [if_neg (by rw [HN.out hlt]; decide)] at this; exact this
        go_wp2_with fail
        refine Calls.mono (HG.out _) ?_
        rintro e w1 ⟨rfl, hb1⟩
        have HB1 : Hid (Below w.heap.size w w1) := HB.out.trans (hb1.mono HB.out.size)
        clear hb1 c1 hfk
        go_wp2
        go_ret2
        exact ⟨Or.inr ⟨hlt, rfl⟩, HB1.out.alloc HB1.out.size _⟩
    · obtain rfl : k = len := by omega
      obtain rfl : k = n := by omega
      go_wp2
      go_ret2
      refine ⟨?_, HB.out⟩
      rcases HW.out.2 with ⟨hv, h0⟩ | ⟨g, cap', cur, hv, _⟩
      · exact Or.inl ⟨h0, by rw [hv]; rfl⟩
      · exact Or.inr ⟨g, ⟨cap', by rw [hv]; rfl⟩, row_of_owns (base := w.heap.size) (cap := cap') (by rw [← hv]; exact HW.out)⟩

/-! ### Same -/
set_option maxHeartbeats 1000000 in
theorem same_rows (w : World) (g1 g2 n c1 c2 : Nat) (f : Nat → Int) (hm : n ≤ 300) (h1 : RowAt w g1 n f) (h2 : RowAt w g2 n f) :
    Calls Tryd.prog 18 #[.slice (some ⟨g1, 0, none⟩) n c1, .slice (some ⟨g2, 0, none⟩) n c2] w fun e w' => e = .returned (.bool true) ∧ Below w.heap.size w w' := by
  have H1 : Hid (RowAt w g1 n f) := h1
  have H2 : Hid (RowAt w g2 n f) := h2
  clear h1 h2
  go_enter Tryd.func18, Tryd.ntmps18
  go_wp2
  go_loopw [5] (fun i wr => ∃ k : Nat, k ≤ n ∧ i = .int .i64 k ∧ Below w.heap.size w wr) (fun i _ => n - (intOf i).toNat)
  case atStart => exact ⟨0, Nat.zero_le _, rfl, Below.refl _ _⟩
  case round =>
    obtain ⟨k, hk, rfl, hbel⟩ := hrel
    have HB : Hid (Below w.heap.size w wr) := hbel
    clear hbel
    by_cases hlt : k < n
    · obtain ⟨a0, a1, a2, a3, a4⟩ := H1.out.later HB.out k hlt
      obtain ⟨b0, b1, b2, b3, b4⟩ := H2.out.later HB.out k hlt
      have hne := fun w => run_neq_ins w (gO (f k)) (gA (f k)) (gB (f k)) (gC (f k)) (gI (f k)) (gO (f k)) (gA (f k)) (gB (f k)) (gC (f k)) (gI (f k))
      simp only [insV, beq_self_eq_true, Bool.and_self, Bool.not_true] at hne
      go_wp2
      go_quiet (fail)
      go_wp2
      go_roundw
      case rel => exact ⟨k + 1, by omega, by go_num, below_drewN HB.out _⟩
      case measure => simp [intOf]; omega
    · obtain rfl : k = n := by omega
      go_wp2
      go_ret
      exact ⟨rfl, HB.out⟩
theorem same_empty (w : World) (a b : Option Addr) (c1 c2 : Nat) :
    Calls Tryd.prog 18 #[.slice a 0 c1, .slice b 0 c2] w fun e w' => e = .returned (.bool true) ∧ Below w.heap.size w w' := by
  go_enter Tryd.func18, Tryd.ntmps18
  go_wp2
  go_loopw [5] (fun i wr => i = .int .i64 0 ∧ Below w.heap.size w wr) (fun i _ => 0)
  case atStart => exact ⟨rfl, Below.refl _ _⟩
  case round =>
    obtain ⟨rfl, hbel⟩ := hrel
    have HB : Hid (Below w.heap.size w wr) := hbel
    clear hbel
    go_wp2
    go_ret
    exact ⟨rfl, HB.out⟩

theorem all_nil (w : World) (a : Option Addr) (cap : Nat) :
    Calls Tryd.prog 16 #[.slice a 0 cap] w fun e w' => e = .returned (.tuple #[.slice (some ⟨w.heap.size, 0, none⟩) 0 0, .int .i64 (-1)]) ∧ Below w.heap.size w w' := by
  obtain ⟨i0, hi, hz0, hz1, hz2⟩ := info_parts info23
  have hmk : ∀ w, (Instr.makeSlice 37 (.int .i64 0) (.int .i64 0)).run Tryd.prog w = .ok (.slice (some ⟨w.heap.size, 0, none⟩) 0 0) (w.alloc (.cells (madeCells #[.int .i64 0, .int .i64 0, .int .i64 0, .int .i64 0, .int .i64 0] 0) 23)) := by
    intro w
    have h := run_make (P := Tryd.prog) w 37 23 i0 _ Tryd.underlying37 hi hz0 .i64 .i64 0 0 (by omega) (Int.le_refl _) (by rw [hz2]; omega) (by omega)
    simp only [Int.toNat_zero, Nat.zero_mul] at h
    exact h
  go_enter Tryd.func16, Tryd.ntmps16
  go_wp2
  go_loopw [14] (fun i wr => i = .int .i64 0 ∧ Below w.heap.size w wr) (fun i _ => 0)
  case atStart => exact ⟨rfl, (Below.refl _ _).alloc (Nat.le_refl _) _⟩
  case round =>
    obtain ⟨rfl, hbel⟩ := hrel
    have HB : Hid (Below w.heap.size w wr) := hbel
    clear hbel
    go_wp2
    go_ret2
    exact ⟨rfl, HB.out⟩
theorem rall_nil (w : World) (a : Option Addr) (cap : Nat) :
    Calls Tryd.prog 17 #[.slice a 0 cap] w fun e w' => e = .returned (.tuple #[.slice none 0 0, .int .i64 (-1)]) ∧ Below w.heap.size w w' := by
  go_enter Tryd.func17, Tryd.ntmps17
  go_wp2
  go_loopw [4, 5] (fun v i wr => v = .slice none 0 0 ∧ i = .int .i64 0 ∧ Below w.heap.size w wr) (fun _ i _ => 0)
  case atStart => exact ⟨rfl, rfl, Below.refl _ _⟩
  case round =>
    obtain ⟨rfl, rfl, hbel⟩ := hrel
    have HB : Hid (Below w.heap.size w wr) := hbel
    clear hbel
    go_wp2
    go_ret2
    exact ⟨rfl, HB.out⟩

theorem first_bad (f : Nat → Int) : ∀ len : Nat, ∃ n, n ≤ len ∧ (∀ i, i < n → okG (f i) = true) ∧ (n < len → okG (f n) = false)
  | 0 => ⟨0, by omega, by omega, by omega⟩
  | len + 1 => by
    obtain ⟨n, h1, h2, h3⟩ := first_bad f len
    by_cases e : n < len
    · exact ⟨n, by omega, h2, fun _ => h3 e⟩
    · obtain rfl : n = len := by omega
      cases g : okG (f n)
      · exact ⟨n, by omega, h2, fun _ => g⟩
      · refine ⟨n + 1, by omega, fun i hi => ?_, by omega⟩
        by_cases e' : i < n
        · exact h2 i e'
        · obtain rfl : i = n := by omega
          exact g

/-- A slice of integers that came in: nil, or a row of cells. -/
def IsRow (k : IntKind) (w : World) (a : Option Addr) (len cap : Nat) (zs : List Int) : Prop :=
  (a = none ∧ len = 0 ∧ cap = 0 ∧ zs = []) ∨
  ∃ x, a = some x ∧ len ≤ cap ∧ cap ≤ maxLen ∧ zs.length = cap ∧ (∀ i, i < zs.length → w.cell? (x.add i) = some (.int k (zs.getD i 0))) ∧ ∀ n ∈ zs, (Lit.int k n).wf = true
/-- A slice of words that came in, with an element: its cells. -/
theorem row_words {w : World} {a : Option Addr} {len cap : Nat} {zs : List Int} (h : IsRow .u32 w a len cap zs) (h0 : len ≠ 0) :
    ∃ b off, a = some ⟨b, off, none⟩ ∧ (∀ i, 0 ≤ zs.getD i 0 ∧ zs.getD i 0 < 4294967296) ∧ (∀ i, i < len → w.cell? ⟨b, off + i, none⟩ = some (.int .u32 (zs.getD i 0))) := by
  rcases h with ⟨_, rfl, _, _⟩ | ⟨x, rfl, hl', hm', hz, hcell, hwz⟩
  · exact absurd rfl h0
  obtain ⟨b, off, spot⟩ := x
  have hc := hcell 0 (by omega)
  have hspot : spot = none := by simpa [Addr.add] using World.cell?_spot hc
  subst hspot
  refine ⟨b, off, rfl, fun i => ?_, fun i hi => ?_⟩
  · by_cases hi : i < zs.length
    · have e : zs.getD i 0 = zs[i] := by simp [List.getD_eq_getElem?_getD, List.getElem?_eq_getElem hi]
      have := hwz _ (List.getElem_mem hi)
      rw [e]
      simp [Lit.wf, IntKind.min, IntKind.max, IntKind.signed, IntKind.bits] at this; omega
    · have e : zs.getD i 0 = 0 := by rw [List.getD_eq_getElem?_getD, List.getElem?_eq_none (by omega : zs.length ≤ i)]; rfl
      rw [e]; omega
  · have h := hcell i (by omega)
    have e : (⟨b, off, none⟩ : Addr).add i = ⟨b, off + i, none⟩ := by cases i <;> simp [Addr.add]
    rw [e] at h
    exact h
theorem row_len {k : IntKind} {w : World} {a : Option Addr} {len cap : Nat} {zs : List Int} (h : IsRow k w a len cap zs) : len ≤ 9223372036854775807 := by
  rcases h with ⟨_, rfl, _, _⟩ | ⟨x, _, hl, hm, _⟩
  · omega
  · unfold maxLen at hm; omega
end Go.Proofs.YtidfdhghgjdihaaDoor
