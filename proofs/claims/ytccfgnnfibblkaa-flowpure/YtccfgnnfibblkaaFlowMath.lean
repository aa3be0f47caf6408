/- The plain arithmetic of layer 3: what a right instruction reads, written as it stands in it, is what the document says. No condition beyond 'right'. -/
import Derived.Test.YtccfgnnfibblkaaFlowRef
namespace Go.Proofs.Ytccfgnnfibblkaa
open Go.RowKit
set_option linter.unusedVariables false

def regList : List Int := [1, 2, 3, 4, 5, 6, 7, 8, 9, 10, 11, 12, 13, 14, 15]
theorem refL_filter (op a b c : Int) : ∀ k : Nat, refL op a b c k = ((List.range k).map fun j : Nat => (j : Int) + 1).filter (refB op a b c)
  | 0 => rfl
  | k + 1 => by
    simp only [refL, List.range_succ, List.map_append, List.filter_append, List.map_cons, List.map_nil]
    rw [refL_filter op a b c k]
    congr 1
    cases h : refB op a b c ((k : Int) + 1) <;> simp [h]
theorem refL_15 (op a b c : Int) : refL op a b c 15 = regList.filter (refB op a b c) := by rw [refL_filter]; rfl

theorem one_fin : ∀ x : Fin 16, (if (x.val : Int) = 0 then [] else [(x.val : Int)]) = regList.filter (fun r => decide ((x.val : Int) = r)) := by decide +kernel
theorem two_fin : ∀ x y : Fin 16, (if (x.val : Int) = (y.val : Int) then (if (x.val : Int) = 0 then [] else [(x.val : Int)]) else ([min (x.val : Int) (y.val : Int), max (x.val : Int) (y.val : Int)].filter fun x => !decide (x = 0))) = regList.filter (fun r => decide ((y.val : Int) = r) || decide ((x.val : Int) = r)) := by decide +kernel
theorem as_fin {x : Int} (h0 : 0 ≤ x) (h1 : x < 16) : ∃ f : Fin 16, x = (f.val : Int) := ⟨⟨x.toNat, by omega⟩, by simp; omega⟩
theorem one_reg {x : Int} (h0 : 0 ≤ x) (h1 : x < 16) : risingL [x] = regList.filter (fun r => decide (x = r)) := by
  obtain ⟨f, rfl⟩ := as_fin h0 h1
  rw [rising_one]; exact one_fin f
theorem two_reg {x y : Int} (h0 : 0 ≤ x) (h1 : x < 16) (g0 : 0 ≤ y) (g1 : y < 16) : risingL [x, y] = regList.filter (fun r => decide (y = r) || decide (x = r)) := by
  obtain ⟨f, rfl⟩ := as_fin h0 h1
  obtain ⟨g, rfl⟩ := as_fin g0 g1
  rw [rising_two]; exact two_fin f g
theorem read_ref (op a b c : Int) (h0 : 0 ≤ op) (h1 : op < 26) (a0 : 0 ≤ a) (a1 : a < 16) (b0 : 0 ≤ b) (b1 : b < 16) (c0 : 0 ≤ c) (c1 : c < 16) : readL op a b c = refL op a b c 15 := by
  rw [refL_15]
  unfold readL
  rcases ops26 h0 h1 with rfl | rfl | rfl | rfl | rfl | rfl | rfl | rfl | rfl | rfl | rfl | rfl | rfl | rfl | rfl | rfl | rfl | rfl | rfl | rfl | rfl | rfl | rfl | rfl | rfl | rfl
  all_goals
    first
      | exact (two_reg c0 c1 b0 b1).trans (congrArg (fun f => regList.filter f) (funext fun r => by simp [refB]))
      | exact (two_reg b0 b1 a0 a1).trans (congrArg (fun f => regList.filter f) (funext fun r => by simp [refB]))
      | exact (one_reg b0 b1).trans (congrArg (fun f => regList.filter f) (funext fun r => by simp [refB]))
      | exact (one_reg a0 a1).trans (congrArg (fun f => regList.filter f) (funext fun r => by simp [refB]))
      | exact rising_nil.trans (by rw [show refB _ a b c = fun _ => false from funext fun r => by simp [refB]]; rfl)
/-- Of registers it reads at most two, in order, none of them 0. -/
theorem read_two (op a b c : Int) : (readL op a b c).length ≤ 2 := by
  have h : ∀ l : List Int, l.length ≤ 2 → (risingL l).length ≤ 2 := fun l hl => by
    unfold risingL
    refine Nat.le_trans (List.length_filter_le _ _) (Nat.le_trans (len_compact _) ?_)
    rw [List.length_mergeSort]; exact hl
  unfold readL rawL
  repeat' split
  all_goals exact h _ (by simp)
end Go.Proofs.Ytccfgnnfibblkaa
