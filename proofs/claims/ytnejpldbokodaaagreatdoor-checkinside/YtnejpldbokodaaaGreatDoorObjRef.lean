/- What the document's own functions on objects return. -/
import Derived.Test.YtnejpldbokodaaaGreatDoorObjMath
import Derived.Test.YtnejpldbokodaaaGreatDoorScanKit
namespace Go.Proofs.YtnejpldbokodaaaGreatDoor
open Go.ChangeShapes Go.WideShapes Go.ChangeAt Go.RowKit
set_option linter.unusedVariables false
set_option linter.unusedSimpArgs false
set_option maxRecDepth 100000 in
theorem rnamed9_any (s : ByteArray) (w : World) (hs : s.size ≤ 9223372036854775807) :
    Calls Tryz.prog 30 #[.string s] w fun e w' => e = .returned (.bool (namedB s)) ∧ w' = w := by
  obtain ⟨b, eb⟩ : ∃ b, namedB s = b := ⟨_, rfl⟩
  have EB : Hid (namedB s = b) := eb
  rw [eb]
  clear eb
  have IX : ∀ (k : Nat) (W : World), k < s.size → (Instr.index 9 (.string s) (.int .i64 k)).run Tryz.prog W = .ok (.int .u8 (byteZ s k)) W := fun k W hk => index_str 9 Tryz.underlying9 s k W hk
  rcases (by omega : (s.size : Int) < 1 ∨ 32 < (s.size : Int) ∧ 1 ≤ (s.size : Int) ∨ 1 ≤ (s.size : Int) ∧ (s.size : Int) ≤ 32) with h1 | ⟨h1, h2⟩ | ⟨h1, h2⟩
  · go_enter Tryz.func30, Tryz.ntmps30
    go_wp2
    go_ret
    refine ⟨ret_bool ?_, rfl⟩
    rw [← EB.out]
    unfold namedB
    symm; rw [decide_eq_false_iff_not]; omega
  · go_enter Tryz.func30, Tryz.ntmps30
    go_wp2
    go_ret
    refine ⟨ret_bool ?_, rfl⟩
    rw [← EB.out]
    unfold namedB
    symm; rw [decide_eq_false_iff_not]; omega
  · go_enter Tryz.func30, Tryz.ntmps30
    go_wp2
    go_loop [3] (fun i => ∃ k : Nat, k ≤ s.size ∧ i = .int .i64 k ∧ ∀ j, j < k → letterB (byteZ s j) = true) (fun i => s.size - (intOf i).toNat)
    case atStart => exact ⟨0, Nat.zero_le _, rfl, fun j hj => by omega⟩
    case round =>
      obtain ⟨k, hk, rfl, hl⟩ := hrel
      have HL : Hid (∀ j, j < k → letterB (byteZ s j) = true) := hl
      clear hl
      by_cases hlt : k < s.size
      · have hlt' : (k : Int) < s.size := by omega
        have hix := IX k
        have hbd := byteZ_bd s k
        obtain ⟨c, ec⟩ : ∃ c, byteZ s k = c := ⟨_, rfl⟩
        have EC : Hid (byteZ s k = c) := ec
        rw [ec] at hix hbd
        clear ec IX
        go_wp2
        all_goals (try simp only [bne_iff_ne, ne_eq, bne_eq_false_iff_eq] at *)
        all_goals first
          | (refine ⟨⟨k + 1, by omega, by go_num, fun j hj => ?_⟩, by simp [intOf]; omega⟩
             rcases (by omega : j < k ∨ j = k) with h | rfl
             · exact HL.out j h
             · rw [EC.out]; unfold letterB; rw [decide_eq_true_eq]; omega)
          | (go_ret
             refine ⟨ret_bool ?_, rfl⟩
             rw [← EB.out]
             unfold namedB
             symm; rw [decide_eq_false_iff_not]
             intro h
             have h := h.2.2 k hlt
             rw [EC.out] at h
             unfold letterB at h
             rw [decide_eq_true_eq] at h
             omega)
      · obtain rfl : k = s.size := by omega
        go_wp2
        go_ret
        refine ⟨ret_bool ?_, rfl⟩
        rw [← EB.out]
        unfold namedB
        symm; rw [decide_eq_true_eq]
        exact ⟨by omega, by omega, HL.out⟩
end Go.Proofs.YtnejpldbokodaaaGreatDoor
