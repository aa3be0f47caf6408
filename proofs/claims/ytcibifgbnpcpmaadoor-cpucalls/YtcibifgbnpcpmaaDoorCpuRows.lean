/- A row of words of the call's own, that is written to. -/
import Derived.Test.YtcibifgbnpcpmaaDoorCpuWords
import Derived.Test.YtcibifgbnpcpmaaDoorCodeAwake
import Derived.Test.YtcibifgbnpcpmaaDoorCodePG
import Derived.Deep.RegionHeld3
import Derived.Deep.Cut
namespace Go.Proofs.YtcibifgbnpcpmaaDoor
open Go.ChangeShapes Go.WideShapes Go.ChangeAt Go.RowKit
set_option linter.unusedVariables false
/-- A row's n words, that may be written. -/
def RowU (w : World) (g n : Nat) (F : Nat → Int) : Prop := (∀ k, k < n → w.cell? ⟨g, k, none⟩ = some (.int .u32 (F k))) ∧ (∀ q, w.frozen? ⟨g, q, none⟩ = false) ∧ g < w.heap.size
theorem RowU.later {w w' : World} {g n : Nat} {F : Nat → Int} (h : RowU w g n F) (hb : Below w.heap.size w w') : RowU w' g n F :=
  ⟨fun k hk => cell_later' (h.1 k hk) hb, fun q => (hb.frozen (p := ⟨g, q, none⟩) h.2.2).trans (h.2.1 q), Nat.lt_of_lt_of_le h.2.2 hb.size⟩
theorem RowU.put {w : World} {g n : Nat} {F : Nat → Int} (h : RowU w g n F) (j : Nat) (hj : j < n) (x : Int) : RowU (w.setCell ⟨g, j, none⟩ (.int .u32 x)) g n (fun k => if k = j then x else F k) := by
  refine ⟨fun k hk => ?_, fun q => by simpa using h.2.1 q, by simpa using h.2.2⟩
  by_cases e : k = j
  · subst e; simp only [if_pos]; exact World.cell?_setCell_same _ _ _ (h.1 k hk)
  · simp only [if_neg e]; rw [World.cell?_setCell_other _ _ _ _ (fun q => e (congrArg Addr.off q).symm)]; exact h.1 k hk
theorem RowU.row {w : World} {g n : Nat} {F : Nat → Int} (h : RowU w g n F) (hF : ∀ i, (Lit.int .u32 (F i)).wf = true) : RowK .u32 w (some ⟨g, 0, none⟩) n F :=
  ⟨hF, .inr ⟨g, 0, rfl, fun i hi => by rw [Nat.zero_add]; exact h.1 i hi⟩⟩
theorem rowU_of_own {w : World} {base : Nat} {e : TypeId} {a : Option Addr} {n cap : Nat} {F : Nat → Int} (h : w.ownsRow base e 1 (.slice a n cap) n (cellsK .u32 n F)) (hn : 0 < n) : ∃ g, a = some ⟨g, 0, none⟩ ∧ base ≤ g ∧ RowU w g n F ∧ n ≤ cap := by
  obtain ⟨g, cap', hv, hb, hl⟩ := h.form hn
  simp only [Value.slice.injEq] at hv
  obtain ⟨rfl, -, rfl⟩ := hv
  exact ⟨g, rfl, hb, ⟨fun k hk => by rw [h.cellAt k (by omega)]; exact cellsK_get _ _ _ _ hk, fun q => h.frozenAt q, hl⟩, own_cap h⟩
def lenV : Value → Nat | .slice _ n _ => n | _ => 0
end Go.Proofs.YtcibifgbnpcpmaaDoor
