/- A step of the document's, and of the code's, wherever the place is. -/
import Derived.Test.YtnpejnjigaalfaaDoorRunSpec
import Derived.Test.YtnpejnjigaalfaaDoorRefStepZ
import Derived.Test.YtnpejnjigaalfaaDoorCpuStep
namespace Go.Proofs.YtnpejnjigaalfaaDoor
open Go.ChangeShapes Go.WideShapes Go.ChangeAt Go.RowKit
set_option linter.unusedVariables false
set_option linter.unusedSimpArgs false
theorem rstep_y {w : World} {C : Array Value} {s : St} {N : Nat} (hv : IsSt w (.agg C) s) (hs : Fit N s) (hN : N ≤ 4000) (a : Option Addr) (n c : Nat) (f : Nat → Int) (hn : n ≤ 1000) (hw : RowK .u32 w a n f) :
    Calls Tryd.prog 13 #[.slice a n c, .agg C] w (StPost w C (stepY n f s)) := by
  cases he : s.en
  · by_cases h0 : s.at_ < 0
    · have e : stepY n f s = s.stop 2 := by unfold stepY; rw [he, if_neg (by decide), if_pos h0]
      rw [e]; exact rstep_neg hv he a n c h0
    · have e : stepY n f s = stepZ n f s := by unfold stepY; rw [he, if_neg (by decide), if_neg h0]
      rw [e]; exact rstep_post hv (hs.small hN (by omega)) a n c f hn hw
  · rw [stepY_ended he]; exact rstep_en hv he a n c
set_option maxRecDepth 100000 in
theorem fetch_neg (w : World) (a : Option Addr) (n c : Nat) (p : Int) (h : p < 0) :
    Calls Tryd.prog 50 #[.slice a n c, .int .i64 p] w fun e w' => e = .returned (.tuple #[.agg (insV 0 0 0 0 0), .bool false]) ∧ Below w.heap.size w w' := by
  have q1 : decide (p < 0) = true := by simp [h]
  go_enter Tryd.func50, Tryd.ntmps50
  go_wp2
  refine bodyPost_ret (v := Value.tuple #[.agg (insV 0 0 0 0 0), .bool false]) ?_ rfl ⟨rfl, (Below.refl _ _).alloc (Nat.le_refl _) _⟩
  simp [results, Tryd.results50, go_sem, insV]
theorem step_y {w : World} {C : Array Value} {s : St} {N : Nat} (hv : IsSt w (.agg C) s) (hs : Fit N s) (hN : N ≤ 4000) (a : Option Addr) (n c : Nat) (f : Nat → Int) (hn : n ≤ 1000) (hw : RowK .u32 w a n f) (hT : Tab w) :
    Calls Tryd.prog 46 #[.slice a n c, .agg C] w (StPost w C (stepY n f s)) := by
  cases he : s.en
  · by_cases h0 : s.at_ < 0
    · have e : stepY n f s = s.stop 2 := by unfold stepY; rw [he, if_neg (by decide), if_pos h0]
      rw [e]
      refine step_bad hv he a n c fun W hW => ?_
      have h := fetch_neg W a n c s.at_ h0
      unfold insV at h
      exact h
    · have e : stepY n f s = stepZ n f s := by unfold stepY; rw [he, if_neg (by decide), if_neg h0]
      rw [e]; exact step_post hv (hs.small hN (by omega)) a n c f hn hw hT
  · rw [stepY_ended he]; exact step_en hv he a n c
end Go.Proofs.YtnpejnjigaalfaaDoor
