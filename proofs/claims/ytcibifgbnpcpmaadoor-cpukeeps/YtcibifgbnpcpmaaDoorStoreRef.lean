/- What the document's own answers for layer 5 return: one contract a function. -/
import Derived.Test.YtcibifgbnpcpmaaDoorSlices
import Derived.Test.YtcibifgbnpcpmaaDoorFrame
import Derived.OwnWalk
import Derived.Laws.OwnMore
namespace Go.Proofs.YtcibifgbnpcpmaaDoor
open Go.ChangeShapes Go.WideShapes Go.ChangeAt Go.RowKit
set_option linter.unusedVariables false

/-- A memory's value. -/
abbrev memV (wr : Int) (a : Option Addr) (n cap : Nat) : Value := .agg #[.int .i64 wr, .slice a n cap]
/-- A memory's two cells stand at the head of a block. -/
def MemAt (w : World) (k : Nat) (wr : Int) (a : Option Addr) (n cap : Nat) : Prop :=
  w.cell? ⟨k, 0, none⟩ = some (.int .i64 wr) ∧ w.cell? ⟨k, 1, none⟩ = some (.slice a n cap)
theorem MemAt.later {w w' : World} {k : Nat} {wr : Int} {a : Option Addr} {n cap : Nat} (h : MemAt w k wr a n cap) (hb : Below w.heap.size w w') : MemAt w' k wr a n cap :=
  ⟨cell_later' h.1 hb, cell_later' h.2 hb⟩
theorem MemAt.new (w : World) (wr : Int) (a : Option Addr) (n cap : Nat) (t : TypeId) : MemAt (w.alloc (.cells #[.int .i64 wr, .slice a n cap] t)) w.heap.size wr a n cap :=
  ⟨new_cell' w _ _ 0 _ rfl, new_cell' w _ _ 1 _ rfl⟩
/-- The same, in a block that may be written. -/
def MemFree (w : World) (k : Nat) (wr : Int) (a : Option Addr) (n cap : Nat) : Prop :=
  MemAt w k wr a n cap ∧ w.frozen? ⟨k, 0, none⟩ = false ∧ w.frozen? ⟨k, 1, none⟩ = false
theorem MemFree.later {w w' : World} {k : Nat} {wr : Int} {a : Option Addr} {n cap : Nat} (h : MemFree w k wr a n cap) (hb : Below w.heap.size w w') : MemFree w' k wr a n cap := by
  have hk : k < w.heap.size := World.block_lt_of_cell? w ⟨k, 0, none⟩ h.1.1
  exact ⟨h.1.later hb, (hb.frozen (p := ⟨k, 0, none⟩) hk).trans h.2.1, (hb.frozen (p := ⟨k, 1, none⟩) hk).trans h.2.2⟩
theorem MemFree.new (w : World) (wr : Int) (a : Option Addr) (n cap : Nat) (t : TypeId) : MemFree (w.alloc (.cells #[.int .i64 wr, .slice a n cap] t)) w.heap.size wr a n cap :=
  ⟨MemAt.new w wr a n cap t, by simp [go_sem], by simp [go_sem]⟩
theorem set2 {w : World} {k : Nat} {wr : Int} {a : Option Addr} {n cap : Nat} (h : MemFree w k wr a n cap) (v0 v1 : Value) :
    (w.setCell ⟨k, 0, none⟩ v0).cell? ⟨k, 0, none⟩ = some v0 ∧ ((w.setCell ⟨k, 0, none⟩ v0).setCell ⟨k, 1, none⟩ v1).cell? ⟨k, 1, none⟩ = some v1 :=
  ⟨World.cell?_setCell_same _ _ _ h.1.1, World.cell?_setCell_same _ _ _ (u := .slice a n cap) (by rw [World.cell?_setCell_other _ _ _ _ (by simp)]; exact h.1.2)⟩
theorem below_set2 {w w1 : World} {B k : Nat} (h : Below B w w1) (hk : B ≤ k) (v0 v1 : Value) : Below B w ((w1.setCell ⟨k, 0, none⟩ v0).setCell ⟨k, 1, none⟩ v1) :=
  (h.setCell (p := ⟨k, 0, none⟩) hk v0).setCell (p := ⟨k, 1, none⟩) hk v1
/-- May it be loaded? -/
def okB (n : Nat) (at_ : Int) (wide : Bool) : Bool := decide (65536 ≤ at_ ∧ at_ - 65536 < n ∧ (wide = true → at_ % 4 = 0 ∧ at_ + 3 - 65536 < n))
/-- The word, or the byte, that stands there. -/
def loadZ (f : Nat → Int) (at_ : Int) (wide : Bool) : Int := if wide = true then sumZ (fun k => f ((at_ - 65536).toNat + k)) 4 else f (at_ - 65536).toNat
theorem load_bd (f : Nat → Int) (hf : ∀ i, 0 ≤ f i ∧ f i < 256) (at_ : Int) (wide : Bool) : 0 ≤ loadZ f at_ wide ∧ loadZ f at_ wide < 4294967296 := by
  unfold loadZ; split
  · have := sum_bd (fun k => f ((at_ - 65536).toNat + k)) (fun i => hf _) 4
    simpa using this
  · have := hf (at_ - 65536).toNat; omega

end Go.Proofs.YtcibifgbnpcpmaaDoor
