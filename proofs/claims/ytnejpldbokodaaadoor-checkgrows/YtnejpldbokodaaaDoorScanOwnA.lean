/- What the code's own functions of the scanner return (over the guess). -/
import Derived.Test.YtnejpldbokodaaaDoorScanKit
import Derived.Test.YtnejpldbokodaaaDoorSliceLib
import Derived.Lib.AppendStr
import Derived.BigQuiet
namespace Go.Proofs.YtnejpldbokodaaaDoor
open Go.ChangeShapes Go.WideShapes Go.ChangeAt Go.RowKit
set_option linter.unusedVariables false
set_option linter.unusedSimpArgs false
set_option maxRecDepth 100000 in
theorem letter_any (c : Int) (w : World) (c0 : 0 ≤ c) (c1 : c < 256) :
    Calls Tryd.prog 88 #[.int .u8 c] w fun e w' => e = .returned (.bool (letterB c)) ∧ w' = w := by
  obtain ⟨b, eb⟩ : ∃ b, letterB c = b := ⟨_, rfl⟩
  have EB : Hid (letterB c = b) := eb
  rw [eb]
  clear eb
  go_enter Tryd.func88, Tryd.ntmps88
  go_wp2
  all_goals
    go_ret
    refine ⟨ret_bool ?_, rfl⟩
    rw [← EB.out]
    unfold letterB
    try simp only [beq_iff_eq, beq_eq_false_iff_ne, ne_eq] at *
    first
    | (symm; rw [decide_eq_false_iff_not]; omega)
    | (symm; rw [decide_eq_true_eq]; omega)
    | (rw [decide_eq_decide]; omega)
    | (rw [Bool.eq_iff_iff]; simp only [Bool.or_eq_true, Bool.and_eq_true, decide_eq_true_eq, beq_iff_eq]; omega)
set_option maxRecDepth 100000 in
theorem named_any (s : ByteArray) (w : World) (hs : s.size ≤ 9223372036854775807) :
    Calls Tryd.prog 66 #[.string s] w fun e w' => e = .returned (.bool (namedB s)) ∧ Below w.heap.size w w' := by
  obtain ⟨b, eb⟩ : ∃ b, namedB s = b := ⟨_, rfl⟩
  have EB : Hid (namedB s = b) := eb
  rw [eb]
  clear eb
  have IX : ∀ (k : Nat) (W : World), k < s.size → (Instr.index 9 (.string s) (.int .i64 k)).run Tryd.prog W = .ok (.int .u8 (byteZ s k)) W := fun k W hk => index_str 9 Tryd.underlying9 s k W hk
  have RL : Hid (∀ (k : Nat) (W : World), Calls Tryd.prog 88 #[.int .u8 (byteZ s k)] W fun e w' => e = .returned (.bool (letterB (byteZ s k))) ∧ w' = W) := fun k W => letter_any _ W (byteZ_bd s k).1 (byteZ_bd s k).2
  rcases (by omega : (s.size : Int) < 1 ∨ 32 < (s.size : Int) ∧ 1 ≤ (s.size : Int) ∨ 1 ≤ (s.size : Int) ∧ (s.size : Int) ≤ 32) with h1 | ⟨h1, h2⟩ | ⟨h1, h2⟩
  · go_enter Tryd.func66, Tryd.ntmps66
    go_wp2
    go_ret
    refine ⟨ret_bool ?_, Below.refl _ _⟩
    rw [← EB.out]
    unfold namedB
    symm; rw [decide_eq_false_iff_not]; omega
  · go_enter Tryd.func66, Tryd.ntmps66
    go_wp2
    go_ret
    refine ⟨ret_bool ?_, Below.refl _ _⟩
    rw [← EB.out]
    unfold namedB
    symm; rw [decide_eq_false_iff_not]; omega
  · go_enter Tryd.func66, Tryd.ntmps66
    go_wp2
    go_loop [14] (fun i => ∃ k : Nat, k ≤ s.size ∧ i = .int .i64 k ∧ ∀ j, j < k → letterB (byteZ s j) = true) (fun i => s.size - (intOf i).toNat)
    case atStart => exact ⟨0, Nat.zero_le _, rfl, fun j hj => by omega⟩
    case round =>
      obtain ⟨k, hk, rfl, hl⟩ := hrel
      have HL : Hid (∀ j, j < k → letterB (byteZ s j) = true) := hl
      clear hl
      by_cases hlt : k < s.size
      · have hlt' : (k : Int) < s.size := by omega
        cases hc : letterB (byteZ s k)
        · have HC : Hid (letterB (byteZ s k) = false) := hc
          go_wp2_with (go_at_call 88; refine (RL.out k _).mono ?_; rintro e w' ⟨rfl, rfl⟩; rw [hc])
          go_ret
          refine ⟨ret_bool ?_, Below.refl _ _⟩
          rw [← EB.out]
          unfold namedB
          symm; rw [decide_eq_false_iff_not]
          intro h
          have := h.2.2 k hlt
          rw [HC.out] at this; cases this
        · have HC : Hid (letterB (byteZ s k) = true) := hc
          go_wp2_with (go_at_call 88; refine (RL.out k _).mono ?_; rintro e w' ⟨rfl, rfl⟩; rw [hc])
          go_round
          case rel =>
            refine ⟨k + 1, by omega, by go_num, fun j hj => ?_⟩
            rcases (by omega : j < k ∨ j = k) with h | rfl
            · exact HL.out j h
            · exact HC.out
          case measure => simp [intOf]; omega
      · obtain rfl : k = s.size := by omega
        go_wp2
        go_ret
        refine ⟨ret_bool ?_, Below.refl _ _⟩
        rw [← EB.out]
        unfold namedB
        symm; rw [decide_eq_true_eq]
        exact ⟨by omega, by omega, HL.out⟩
theorem own_mono {w : World} {base base' : Nat} {e : TypeId} {size : Nat} {v : Value} {n : Nat} {xs : List Value} (h : w.ownsRow base e size v n xs) (hb : base' ≤ base) : w.ownsRow base' e size v n xs :=
  ⟨h.1, h.2.imp id fun ⟨g, cap, cur, h1, h2, h3⟩ => ⟨g, cap, cur, h1, Nat.le_trans hb h2, h3⟩⟩
set_option maxRecDepth 100000 in
set_option maxHeartbeats 1000000 in
/-- A copy, the call's own. -/
theorem clone_own (w : World) (a : Option Addr) (n c : Nat) (f : Nat → Int) (hn : n ≤ 3000000) (hh : Head a n c) (hR : Bytes w a n f) :
    Calls Tryd.prog 91 #[.slice a n c] w fun e w' => ∃ a' c', e = .returned (.slice a' n c') ∧ w'.ownsRow w.heap.size 5 1 (.slice a' n c') n (cellsK .u8 n f) ∧ Below w.heap.size w w' := by
  have q : ∀ (w : World) (a : Option Addr) (n c n' c' : Nat), (binOp .eql 22 (.slice a n c) (.slice none n' c')).run Tryd.prog w = .ok (.bool a.isNone) w := fun w a n c n' c' => Lib.run_eql_slice_nil w _ _ a n c n' c' Tryd.underlying22
  have HR : Hid (Bytes w a n f) := hR
  have HH : Hid (Head a n c) := hh
  clear hR hh
  rcases a with _ | a
  · obtain ⟨rfl, rfl⟩ := head_nil HH.out rfl
    go_enter Tryd.func91, Tryd.ntmps91
    go_wp2
    go_ret
    exact ⟨none, 0, rfl, own_none, Below.refl _ _⟩
  · go_enter Tryd.func91, Tryd.ntmps91
    go_wp2_with (at_builtin; refine wpList_append_fresh w rfl (.tmp 5) (.tmp 6) 22 rfl 5 (.int .u8 0) 1 Tryd.underlying22 slB rfl rfl (some a) n c (cellsK .u8 n f) rfl (cellsK_len _ _ _) (head_nil HH.out) (bytes_cells HR.out) (cellsK_one _ _ _) (by unfold maxLen; omega) (by omega) ?_; intro a1 c1 w1 own1 hb1)
    go_ret
    exact ⟨a1, c1, rfl, own1, hb1⟩
