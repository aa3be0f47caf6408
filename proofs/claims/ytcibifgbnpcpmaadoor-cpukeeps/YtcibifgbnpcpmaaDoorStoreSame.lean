/- Two memories that hold the same are the same, as the document's own answer says. -/
import Derived.Test.YtcibifgbnpcpmaaDoorStoreSave
import Derived.Deep.QuietTactic
import Derived.BigQuiet
namespace Go.Proofs.YtcibifgbnpcpmaaDoor
open Go.ChangeShapes Go.WideShapes Go.ChangeAt Go.RowKit
set_option linter.unusedVariables false

theorem bytes_of_rowB {w : World} {g n : Nat} {F : Nat → Int} (h : RowB w g n F) (hF : ∀ i, 0 ≤ F i ∧ F i < 256) : Bytes w (some ⟨g, 0, none⟩) n F :=
  ⟨hF, .inr ⟨g, 0, rfl, fun i hi => by rw [Nat.zero_add]; exact h.1 i hi⟩⟩
theorem bytes_same (w : World) (a1 a2 : Option Addr) (n c1 c2 : Nat) (f : Nat → Int) (hn : n ≤ 2000) (h1 : Bytes w a1 n f) (h2 : Bytes w a2 n f) :
    Calls Tryd.prog 16 #[.slice a1 n c1, .slice a2 n c2] w fun e w' => e = .returned (.bool true) ∧ Below w.heap.size w w' := by
  have H1 : Hid (Bytes w a1 n f) := h1
  have H2 : Hid (Bytes w a2 n f) := h2
  clear h1 h2
  go_enter Tryd.func16, Tryd.ntmps16
  go_wp2
  go_loopw [5] (fun i wr => ∃ k : Nat, k ≤ n ∧ i = .int .i64 k ∧ Below w.heap.size w wr) (fun i _ => n - (intOf i).toNat)
  case atStart => exact ⟨0, Nat.zero_le _, rfl, Below.refl _ _⟩
  case round =>
    obtain ⟨k, hk, rfl, hbel⟩ := hrel
    have HB : Hid (Below w.heap.size w wr) := hbel
    by_cases hlt : k < n
    · obtain ⟨_, e | ⟨b1, o1, rfl, q1⟩⟩ := H1.out.later hbel
      · omega
      obtain ⟨_, e | ⟨b2, o2, rfl, q2⟩⟩ := H2.out.later hbel
      · omega
      have k1 := q1 k hlt
      have k2 := q2 k hlt
      clear q1 q2 hbel
      generalize f k = x at k1 k2
      go_wp2
      go_quiet (fail)
      go_wp2
      go_roundw
      case rel => exact ⟨k + 1, by omega, by go_num, below_drewN HB.out _⟩
      case measure => simp [intOf]; omega
    · obtain rfl : k = n := by omega
      clear hbel
      go_wp2
      go_ret
      exact ⟨rfl, HB.out⟩
theorem rsame_any (w : World) (wt : Int) (a1 a2 : Option Addr) (n c1 c2 : Nat) (f : Nat → Int) (hn : n ≤ 2000) (h1 : Bytes w a1 n f) (h2 : Bytes w a2 n f) :
    Calls Tryd.prog 15 #[memV wt a1 n c1, memV wt a2 n c2] w fun e w' => e = .returned (.bool true) ∧ Below w.heap.size w w' := by
  have HS : Hid (∀ W, Bytes W a1 n f → Bytes W a2 n f → Calls Tryd.prog 16 #[.slice a1 n c1, .slice a2 n c2] W fun e w' => e = .returned (.bool true) ∧ Below W.heap.size W w') := fun W g1 g2 => bytes_same W a1 a2 n c1 c2 f hn g1 g2
  have HA : Hid (Below w.heap.size w ((w.alloc (.cells #[.int .i64 wt, .slice a1 n c1] 30)).alloc (.cells #[.int .i64 wt, .slice a2 n c2] 30))) := ((Below.refl _ w).alloc (Nat.le_refl _) _).alloc (by simp) _
  have H1 : Hid (Bytes ((w.alloc (.cells #[.int .i64 wt, .slice a1 n c1] 30)).alloc (.cells #[.int .i64 wt, .slice a2 n c2] 30)) a1 n f) := h1.later HA.out
  have H2 : Hid (Bytes ((w.alloc (.cells #[.int .i64 wt, .slice a1 n c1] 30)).alloc (.cells #[.int .i64 wt, .slice a2 n c2] 30)) a2 n f) := h2.later HA.out
  clear h1 h2
  go_enter Tryd.func15, Tryd.ntmps15
  go_wp2_with (go_at_call 16; refine (HS.out _ H1.out H2.out).mono ?_; rintro e w1 ⟨rfl, hb1⟩)
  go_ret
  exact ⟨rfl, HA.out.trans (hb1.mono HA.out.size)⟩
end Go.Proofs.YtcibifgbnpcpmaaDoor
