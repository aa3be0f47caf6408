/- Names, and numbers of few bytes: in plain words. -/
import Derived.Test.YtgnokbmhbeeblaaStateCmp
import Derived.Test.YtgnokbmhbeeblaaSlices
import Derived.Test.YtgnokbmhbeeblaaSliceLib
namespace Go.Proofs.Ytgnokbmhbeeblaa
open Go.ChangeShapes Go.WideShapes Go.ChangeAt Go.RowKit
set_option linter.unusedVariables false
set_option linter.unusedSimpArgs false
/-- May the byte stand in a name? -/
def letterB (c : Int) : Bool := decide (97 ≤ c ∧ c ≤ 122 ∨ 65 ≤ c ∧ c ≤ 90 ∨ 48 ≤ c ∧ c ≤ 57 ∨ c = 95 ∨ c = 46)
/-- A text's byte. -/
def byteZ (s : ByteArray) (i : Nat) : Int := (s.data.getD i 0).toNat
/-- Is the text a name? -/
def namedB (s : ByteArray) : Bool := decide (1 ≤ s.size ∧ s.size ≤ 32 ∧ ∀ i, i < s.size → letterB (byteZ s i) = true)
theorem byteZ_bd (s : ByteArray) (i : Nat) : 0 ≤ byteZ s i ∧ byteZ s i < 256 := by
  unfold byteZ
  have := (s.data.getD i 0).toNat_lt
  omega
theorem index_str {P : Program} (t : TypeId) (ht : P.underlying t = some .string) (s : ByteArray) (k : Nat) (W : World) (hk : k < s.size) : (Instr.index t (.string s) (.int .i64 k)).run P W = .ok (.int .u8 (byteZ s k)) W := by
  rw [run_index_string W t s .i64 k ht, dif_pos ⟨by omega, by omega⟩]
  unfold byteZ
  have hk' : k < s.data.size := hk
  have e : s.data.getD k 0 = s.data[k] := by rw [Array.getD_eq_getD_getElem?, Array.getElem?_eq_getElem hk']; rfl
  rw [e]
  rfl
set_option maxRecDepth 100000 in
theorem rletter_any (c : Int) (w : World) (c0 : 0 ≤ c) (c1 : c < 256) :
    Calls Try.prog 42 #[.int .u8 c] w fun e w' => e = .returned (.bool (letterB c)) ∧ w' = w := by
  obtain ⟨b, eb⟩ : ∃ b, letterB c = b := ⟨_, rfl⟩
  have EB : Hid (letterB c = b) := eb
  rw [eb]
  clear eb
  go_enter Try.func42, Try.ntmps42
  go_wp2
  all_goals
    go_ret
    refine ⟨ret_bool ?_, rfl⟩
    rw [← EB.out]
    unfold letterB
    first
    | (symm; rw [decide_eq_false_iff_not]; omega)
    | (symm; rw [decide_eq_true_eq]; omega)
    | (rw [decide_eq_decide]; omega)
    | (rw [Bool.eq_iff_iff]; simp only [Bool.or_eq_true, Bool.and_eq_true, decide_eq_true_eq, beq_iff_eq]; omega)
set_option maxRecDepth 100000 in
theorem rnamed_any (s : ByteArray) (w : World) (hs : s.size ≤ 9223372036854775807) :
    Calls Try.prog 19 #[.string s] w fun e w' => e = .returned (.bool (namedB s)) ∧ w' = w := by
  obtain ⟨b, eb⟩ : ∃ b, namedB s = b := ⟨_, rfl⟩
  have EB : Hid (namedB s = b) := eb
  rw [eb]
  clear eb
  have IX : ∀ (k : Nat) (W : World), k < s.size → (Instr.index 9 (.string s) (.int .i64 k)).run Try.prog W = .ok (.int .u8 (byteZ s k)) W := fun k W hk => index_str 9 Try.underlying9 s k W hk
  have RL : Hid (∀ (k : Nat) (W : World), Calls Try.prog 42 #[.int .u8 (byteZ s k)] W fun e w' => e = .returned (.bool (letterB (byteZ s k))) ∧ w' = W) := fun k W => rletter_any _ W (byteZ_bd s k).1 (byteZ_bd s k).2
  rcases (by omega : (s.size : Int) < 1 ∨ 32 < (s.size : Int) ∧ 1 ≤ (s.size : Int) ∨ 1 ≤ (s.size : Int) ∧ (s.size : Int) ≤ 32) with h1 | ⟨h1, h2⟩ | ⟨h1, h2⟩
  · go_enter Try.func19, Try.ntmps19
    go_wp2
    go_ret
    refine ⟨ret_bool ?_, rfl⟩
    rw [← EB.out]
    unfold namedB
    symm; rw [decide_eq_false_iff_not]; omega
  · go_enter Try.func19, Try.ntmps19
    go_wp2
    go_ret
    refine ⟨ret_bool ?_, rfl⟩
    rw [← EB.out]
    unfold namedB
    symm; rw [decide_eq_false_iff_not]; omega
  · go_enter Try.func19, Try.ntmps19
    go_wp2
    go_loop [3] (fun i => ∃ k : Nat, k ≤ s.size ∧ i = .int .i64 k ∧ ∀ j, j < k → letterB (byteZ s j) = true) (fun i => s.size - (intOf i).toNat)
    case atStart => exact ⟨0, Nat.zero_le _, rfl, fun j hj => by omega⟩
    case round =>
      obtain ⟨k, hk, rfl, hl⟩ := hrel
      have HL : Hid (∀ j, j < k → letterB (byteZ s j) = true) := hl
      clear hl
      by_cases hlt : k < s.size
      · have hlt' : (k : Int) < s.size := by omega
        cases hc : letterB (byteZ s k)
        · have HC : Hid (letterB (byteZ s k) = false) := hc
          go_wp2_with (go_at_call 42; refine (RL.out k _).mono ?_; rintro e w' ⟨rfl, rfl⟩; rw [hc])
          go_ret
          refine ⟨ret_bool ?_, rfl⟩
          rw [← EB.out]
          unfold namedB
          symm; rw [decide_eq_false_iff_not]
          intro h
          have := h.2.2 k hlt
          rw [HC.out] at this; cases this
        · have HC : Hid (letterB (byteZ s k) = true) := hc
          go_wp2_with (go_at_call 42; refine (RL.out k _).mono ?_; rintro e w' ⟨rfl, rfl⟩; rw [hc])
          go_round
          case rel =>
            refine ⟨k + 1, by omega, by go_num, fun j hj => ?_⟩
            rcases (by omega : j < k ∨ j = k) with h | rfl
            · exact HL.out j h
            · exact HC.out
          case measure => simp [intOf]; omega
      · obtain rfl : k = s.size := by omega
        go_wp2
        go_ret
        refine ⟨ret_bool ?_, rfl⟩
        rw [← EB.out]
        unfold namedB
        symm; rw [decide_eq_true_eq]
        exact ⟨by omega, by omega, HL.out⟩
end Go.Proofs.Ytgnokbmhbeeblaa
