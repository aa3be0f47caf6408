/- awake of layer 3 returns true. -/
import Derived.Test.YtccfgnnfibblkaaFlow2
import Derived.Test.YtccfgnnfibblkaaFrame
import Derived.Deep.RegionWith
namespace Go.Proofs.Ytccfgnnfibblkaa
open Go.ChangeShapes Go.WideShapes Go.ChangeAt Go.RowKit Go.Sort
set_option linter.unusedVariables false

theorem read_122 : readL 1 1 2 2 = [2] := by
  have : rawL 1 1 2 2 = [2, 2] := rfl
  unfold readL; rw [this, rising_two]; rfl
theorem awake_any (w : World) : Calls Try.prog 8 #[] w fun e w' => e = .returned (.bool true) ∧ Below w.heap.size w w' := by
  have HR : Hid (∀ W, Calls Try.prog 15 #[.agg #[.int .i64 1, .int .i64 1, .int .i64 2, .int .i64 2, .int .i64 0]] W fun e w' => ∃ g cap, e = .returned (.slice (some ⟨g, 0, none⟩) 1 cap) ∧ w'.cell? ⟨g, 0, none⟩ = some (.int .i64 2) ∧ Below W.heap.size W w') := by
    intro W
    refine (reads_any 1 1 2 2 0 W (by omega) (by omega)).mono ?_
    rintro e w' ⟨v, rfl, h, hb⟩
    rw [read_122] at h
    obtain ⟨a, cap, rfl, h⟩ := h
    rcases h with h | ⟨g, rfl, _, _, h⟩
    · cases h
    · exact ⟨g, cap, rfl, (h 0 (by simp)).1, hb⟩
  have e0 : kindZ 1 = 0 := rfl
  have e1 : writesZ 1 1 = 1 := rfl
  have e2 : flipZ 15 = 16 := rfl
  have e3 : fallsB 1 = true := rfl
  have e4 : fallsB 21 = false := rfl
  have e5 : kindZ 25 = 5 := rfl
  go_enter Try.func8, Try.ntmps8
  go_wp2_with (first
    | (go_at_call 15; refine (HR.out _).mono ?_; rintro e w1 ⟨g, cap, rfl, hc, hb⟩; have Q1 : InsAt _ w.heap.size 1 1 2 2 0 := (InsAt.new w 1 1 2 2 0 23).later hb; obtain ⟨x10, x11, x12, x13, x14⟩ := id Q1)
    | (go_at_call_of 11 (Value.int IntKind.i64 25); refine (kind_any 25 _ _ _ _ _ (by omega) (by omega)).mono ?_; rintro e w6 ⟨rfl, hb6⟩)
    | (go_at_call 11; refine (kind_any 1 _ _ _ _ _ (by omega) (by omega)).mono ?_; rintro e w2 ⟨rfl, hb2⟩; have hc2 := cell_later' hc hb2; have Q2 : InsAt _ w.heap.size 1 1 2 2 0 := Q1.later hb2; obtain ⟨x20, x21, x22, x23, x24⟩ := id Q2)
    | (go_at_call 12; refine (writes_any 1 _ _ _ _ _ (by omega) (by omega)).mono ?_; rintro e w3 ⟨rfl, hb3⟩; have hc3 := cell_later' hc2 hb3; have Q3 : InsAt _ w.heap.size 1 1 2 2 0 := Q2.later hb3; obtain ⟨x30, x31, x32, x33, x34⟩ := id Q3)
    | (go_at_call 18; refine (flip_any _ _).mono ?_; rintro e w4 ⟨rfl, rfl⟩)
    | (go_at_call_of 17 (Value.int IntKind.i64 21); refine (falls_any 21 _ _ _ _ _ (by omega) (by omega)).mono ?_; rintro e w5 ⟨rfl, hb5⟩)
    | (go_at_call 17; refine (falls_any 1 _ _ _ _ _ (by omega) (by omega)).mono ?_; rintro e w4 ⟨rfl, hb4⟩))
  go_ret
  exact ⟨rfl, (bnext ((bnext ((bnext ((bnext ((bnext (((Below.refl _ w).alloc (Nat.le_refl _) _).trans (hb.mono (by simp))) hb2)) hb3)) hb4)) hb5)) hb6)⟩
end Go.Proofs.Ytccfgnnfibblkaa
