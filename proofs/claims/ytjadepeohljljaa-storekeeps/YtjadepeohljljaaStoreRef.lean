/- What the document's own answers for layer 5 return: one contract a function. -/
import Derived.Test.YtjadepeohljljaaSlices
import Derived.Test.YtjadepeohljljaaFrame
import Derived.OwnWalk
import Derived.Laws.OwnMore
namespace Go.Proofs.Ytjadepeohljljaa
open Go.ChangeShapes Go.WideShapes Go.ChangeAt Go.RowKit
set_option linter.unusedVariables false

/-- A memory's value. -/
abbrev memV (wr : Int) (a : Option Addr) (n cap : Nat) : Value := .agg #[.int .i64 wr, .slice a n cap]
/-- A memory's two cells stand at the head of a block. -/
def MemAt (w : World) (k : Nat) (wr : Int) (a : Option Addr) (n cap : Nat) : Prop :=
  w.cell? ⟨k, 0, none⟩ = some (.int .i64 wr) ∧ w.cell? ⟨k, 1, none⟩ = some (.slice a n cap)
theorem MemAt.later {w w' : World} {k : Nat} {wr : Int} {a : Option Addr} {n cap : Nat} (h : MemAt w k wr a n cap) (hb : Below w.heap.size w w') : MemAt w' k wr a n cap :=
  ⟨cell_later' h.1 hb, cell_later' h.2 hb⟩
theorem MemAt.new (w : World) (wr : Int) (a : Option Addr) (n cap : Nat) (t : TypeId) : MemAt (w.alloc (.cells #[.int .i64 wr, .slice a n cap] t)) w.heap.size wr a n cap :=
  ⟨new_cell' w _ _ 0 _ rfl, new_cell' w _ _ 1 _ rfl⟩
/-- The same, in a block that may be written. -/
def MemFree (w : World) (k : Nat) (wr : Int) (a : Option Addr) (n cap : Nat) : Prop :=
  MemAt w k wr a n cap ∧ w.frozen? ⟨k, 0, none⟩ = false ∧ w.frozen? ⟨k, 1, none⟩ = false
theorem MemFree.later {w w' : World} {k : Nat} {wr : Int} {a : Option Addr} {n cap : Nat} (h : MemFree w k wr a n cap) (hb : Below w.heap.size w w') : MemFree w' k wr a n cap := by
  have hk : k < w.heap.size := World.block_lt_of_cell? w ⟨k, 0, none⟩ h.1.1
  exact ⟨h.1.later hb, (hb.frozen (p := ⟨k, 0, none⟩) hk).trans h.2.1, (hb.frozen (p := ⟨k, 1, none⟩) hk).trans h.2.2⟩
theorem MemFree.new (w : World) (wr : Int) (a : Option Addr) (n cap : Nat) (t : TypeId) : MemFree (w.alloc (.cells #[.int .i64 wr, .slice a n cap] t)) w.heap.size wr a n cap :=
  ⟨MemAt.new w wr a n cap t, by simp [go_sem], by simp [go_sem]⟩
theorem set2 {w : World} {k : Nat} {wr : Int} {a : Option Addr} {n cap : Nat} (h : MemFree w k wr a n cap) (v0 v1 : Value) :
    (w.setCell ⟨k, 0, none⟩ v0).cell? ⟨k, 0, none⟩ = some v0 ∧ ((w.setCell ⟨k, 0, none⟩ v0).setCell ⟨k, 1, none⟩ v1).cell? ⟨k, 1, none⟩ = some v1 :=
  ⟨World.cell?_setCell_same _ _ _ h.1.1, World.cell?_setCell_same _ _ _ (u := .slice a n cap) (by rw [World.cell?_setCell_other _ _ _ _ (by simp)]; exact h.1.2)⟩
theorem below_set2 {w w1 : World} {B k : Nat} (h : Below B w w1) (hk : B ≤ k) (v0 v1 : Value) : Below B w ((w1.setCell ⟨k, 0, none⟩ v0).setCell ⟨k, 1, none⟩ v1) :=
  (h.setCell (p := ⟨k, 0, none⟩) hk v0).setCell (p := ⟨k, 1, none⟩) hk v1
/-- May it be loaded? -/
def okB (n : Nat) (at_ : Int) (wide : Bool) : Bool := decide (65536 ≤ at_ ∧ at_ - 65536 < n ∧ (wide = true → at_ % 4 = 0 ∧ at_ + 3 - 65536 < n))
/-- The word, or the byte, that stands there. -/
def loadZ (f : Nat → Int) (at_ : Int) (wide : Bool) : Int := if wide = true then sumZ (fun k => f ((at_ - 65536).toNat + k)) 4 else f (at_ - 65536).toNat
theorem load_bd (f : Nat → Int) (hf : ∀ i, 0 ≤ f i ∧ f i < 256) (at_ : Int) (wide : Bool) : 0 ≤ loadZ f at_ wide ∧ loadZ f at_ wide < 4294967296 := by
  unfold loadZ; split
  · have := sum_bd (fun k => f ((at_ - 65536).toNat + k)) (fun i => hf _) 4
    simpa using this
  · have := hf (at_ - 65536).toNat; omega

theorem there_any (wr at_ : Int) (a : Option Addr) (n cap : Nat) (w : World) (hn : n ≤ 9223372036854775807) (h0 : -9223372036854710272 ≤ at_) (h1 : at_ ≤ 9223372036854775807) :
    Calls Try.prog 17 #[memV wr a n cap, .int .i64 at_] w fun e w' => e = .returned (.bool (decide (65536 ≤ at_ ∧ at_ - 65536 < n))) ∧ Below w.heap.size w w' := by
  by_cases hl : 65536 ≤ at_
  · go_enter Try.func17, Try.ntmps17
    go_wp2
    go_ret
    exact ⟨ret_bool (by rw [Bool.eq_iff_iff]; simp; omega), (Below.refl _ _).alloc (Nat.le_refl _) _⟩
  · go_enter Try.func17, Try.ntmps17
    go_wp2
    go_ret
    exact ⟨ret_bool (by rw [Bool.eq_iff_iff]; simp; omega), (Below.refl _ _).alloc (Nat.le_refl _) _⟩
set_option maxRecDepth 100000 in
set_option maxHeartbeats 1000000 in
theorem rload_any (wr at_ : Int) (wide : Bool) (a : Option Addr) (n cap : Nat) (f : Nat → Int) (w : World) (hn : n ≤ 2000) (hc : n ≤ cap) (h0 : 0 ≤ at_) (h1 : at_ < 4294967296) (hB : Bytes w a n f) :
    Calls Try.prog 10 #[memV wr a n cap, .int .u32 at_, .bool wide] w fun e w' => e = .returned (.tuple #[.int .u32 (if okB n at_ wide = true then loadZ f at_ wide else 0), .bool (okB n at_ wide)]) ∧ Below w.heap.size w w' := by
  have HN : Hid (MemAt (w.alloc (.cells #[.int .i64 wr, .slice a n cap] 24)) w.heap.size wr a n cap) := MemAt.new w wr a n cap 24
  have HA : Hid (Below w.heap.size w (w.alloc (.cells #[.int .i64 wr, .slice a n cap] 24))) := (Below.refl _ w).alloc (Nat.le_refl _) _
  have HS : Hid (w.heap.size ≤ (w.alloc (.cells #[.int .i64 wr, .slice a n cap] 24)).heap.size) := by simp [Hid]
  have HT1 : Hid (∀ W, Calls Try.prog 17 #[memV wr a n cap, .int .i64 at_] W fun e w' => e = .returned (.bool (decide (65536 ≤ at_ ∧ at_ - 65536 < n))) ∧ Below W.heap.size W w') := fun W => there_any wr at_ a n cap W (by omega) (by omega) (by omega)
  have HT2 : Hid (∀ W, Calls Try.prog 17 #[memV wr a n cap, .int .i64 (at_ + 3)] W fun e w' => e = .returned (.bool (decide (65536 ≤ at_ + 3 ∧ at_ + 3 - 65536 < n))) ∧ Below W.heap.size W w') := fun W => there_any wr (at_ + 3) a n cap W (by omega) (by omega) (by omega)
  by_cases ht : 65536 ≤ at_ ∧ at_ - 65536 < n
  rotate_left
  · have ho : okB n at_ wide = false := by unfold okB; exact decide_eq_false (fun h => ht ⟨h.1, h.2.1⟩)
    rw [ho, if_neg (by decide)]
    rw [decide_eq_false ht] at HT1
    clear ht ho HT2
    go_enter Try.func10, Try.ntmps10
    go_wp2_with (go_at_call 17; refine (HT1.out _).mono ?_; rintro e w1 ⟨rfl, hb1⟩)
    go_ret2
    exact ⟨rfl, HA.out.trans (hb1.mono HS.out)⟩
  obtain ⟨i, rfl⟩ : ∃ i : Nat, at_ = 65536 + (i : Int) := ⟨(at_ - 65536).toNat, by omega⟩
  have hi : i < n := by omega
  rw [decide_eq_true ht] at HT1
  obtain ⟨hf, h | ⟨b, off, rfl, hcell⟩⟩ := hB
  · omega
  have HC : Hid (∀ j, j < n → w.cell? ⟨b, off + j, none⟩ = some (.int .u8 (f j))) := hcell
  have ei : ((65536 + (i : Int)) - 65536).toNat = i := by omega
  clear ht hcell
  cases wide
  · have ho : okB n (65536 + (i : Int)) false = true := by unfold okB; simp; omega
    have hl : loadZ f (65536 + (i : Int)) false = f i := by unfold loadZ; rw [if_neg (by decide), ei]
    obtain ⟨f0, f1⟩ := hf i
    rw [ho, if_pos rfl, hl]
    clear ho hl HT2 ei
    go_enter Try.func10, Try.ntmps10
    go_wp2_with (go_at_call 17; refine (HT1.out _).mono ?_; rintro e w1 ⟨rfl, hb1⟩; have Q1 := HN.out.later hb1; obtain ⟨x0, x1⟩ := id Q1; have hci := cell_later' (cell_later' (HC.out i hi) HA.out) hb1)
    go_ret2
    exact ⟨rfl, HA.out.trans (hb1.mono HS.out)⟩
  by_cases h4 : (65536 + (i : Int)) % 4 = 0
  rotate_left
  · have ho : okB n (65536 + (i : Int)) true = false := by unfold okB; exact decide_eq_false (fun h => h4 (h.2.2 rfl).1)
    rw [ho, if_neg (by decide)]
    clear ho HT2 ei
    go_enter Try.func10, Try.ntmps10
    go_wp2_with (go_at_call 17; refine (HT1.out _).mono ?_; rintro e w1 ⟨rfl, hb1⟩; have Q1 := HN.out.later hb1; obtain ⟨x0, x1⟩ := id Q1)
    go_ret2
    exact ⟨rfl, HA.out.trans (hb1.mono HS.out)⟩
  by_cases h3 : (i : Int) + 3 < n
  rotate_left
  · have ho : okB n (65536 + (i : Int)) true = false := by unfold okB; exact decide_eq_false (fun h => h3 (by have := (h.2.2 rfl).2; omega))
    rw [ho, if_neg (by decide)]
    have ht2 : decide (65536 ≤ 65536 + (i : Int) + 3 ∧ 65536 + (i : Int) + 3 - 65536 < n) = false := decide_eq_false (by omega)
    rw [ht2] at HT2
    clear ho ei ht2
    go_enter Try.func10, Try.ntmps10
    go_wp2_with (first
      | (go_at_call 17; revert hb1; intro hb1; refine (HT2.out _).mono ?_; rintro e w2 ⟨rfl, hb2⟩)
      | (go_at_call 17; refine (HT1.out _).mono ?_; rintro e w1 ⟨rfl, hb1⟩; have Q1 := HN.out.later hb1; obtain ⟨x0, x1⟩ := id Q1))
    go_ret2
    exact ⟨rfl, bnext (HA.out.trans (hb1.mono HS.out)) hb2⟩
  · have ho : okB n (65536 + (i : Int)) true = true := by unfold okB; simp; omega
    have hl : loadZ f (65536 + (i : Int)) true = sumZ (fun k => f (i + k)) 4 := by unfold loadZ; rw [if_pos rfl, ei]
    rw [ho, if_pos rfl, hl]
    have ht2 : decide (65536 ≤ 65536 + (i : Int) + 3 ∧ 65536 + (i : Int) + 3 - 65536 < n) = true := decide_eq_true (by omega)
    rw [ht2] at HT2
    have HG : Hid (∀ W, (∀ j, j < n → W.cell? ⟨b, off + j, none⟩ = some (.int .u8 (f j))) → ∀ c, Calls Try.prog 18 #[.slice (some ⟨b, off + i, none⟩) 4 c] W fun e w' => e = .returned (.int .u32 (sumZ (fun k => f (i + k)) 4)) ∧ Below W.heap.size W w') := by
      intro W hW c
      exact rget_any W b (off + i) 4 c (fun k => f (i + k)) (by omega) (fun j hj _ => by rw [Nat.add_assoc]; exact hW _ (by omega)) (fun k => hf _)
    generalize sumZ (fun k => f (i + k)) 4 = L at HG ⊢
    clear ho hl ei ht2
    go_enter Try.func10, Try.ntmps10
    go_wp2_with (first
      | (go_at_call 17; revert hb1; intro hb1; refine (HT2.out _).mono ?_; rintro e w2 ⟨rfl, hb2⟩; have Q2 := Q1.later hb2; obtain ⟨y0, y1⟩ := id Q2)
      | (go_at_call 17; refine (HT1.out _).mono ?_; rintro e w1 ⟨rfl, hb1⟩; have Q1 := HN.out.later hb1; obtain ⟨x0, x1⟩ := id Q1)
      | (go_at_call 18; refine (HG.out w2 (fun j hj => cell_later' (cell_later' (cell_later' (HC.out j hj) HA.out) hb1) hb2) _).mono ?_; rintro e w3 ⟨rfl, hb3⟩))
    go_ret2
    exact ⟨rfl, bnext (bnext (HA.out.trans (hb1.mono HS.out)) hb2) hb3⟩
end Go.Proofs.Ytjadepeohljljaa
