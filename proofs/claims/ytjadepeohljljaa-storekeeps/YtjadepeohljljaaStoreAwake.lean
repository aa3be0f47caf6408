/- awake of layer 5 returns true. -/
import Derived.Test.YtjadepeohljljaaStore
namespace Go.Proofs.Ytjadepeohljljaa
open Go.ChangeShapes Go.WideShapes Go.ChangeAt Go.RowKit
set_option linter.unusedVariables false

theorem saved_bd (f : Nat → Int) (hf : ∀ i, 0 ≤ f i ∧ f i < 256) (at_ x : Int) (wide : Bool) : ∀ k, 0 ≤ savedF f at_ x wide k ∧ savedF f at_ x wide k < 256 := put_bd f hf _ x _
theorem made_one (v : Value) (n j : Nat) (hj : j < n) : (madeCells #[v] n)[j]? = some v := by
  simp [madeCells, hj, Nat.mod_one]
set_option maxHeartbeats 1000000 in
theorem awake_any (w : World) : Calls Try.prog 8 #[] w fun e w' => e = .returned (.bool true) ∧ Below w.heap.size w w' := by
  obtain ⟨i0, hi, hz0, hz1, hz2⟩ := info_parts info5
  have hmk : ∀ w, (Instr.makeSlice 22 (.int .i64 8) (.int .i64 8)).run Try.prog w = .ok (.slice (some ⟨w.heap.size, 0, none⟩) 8 8) (w.alloc (.cells (madeCells #[.int .u8 0] 8) 5)) := by
    intro w
    have h := run_make (P := Try.prog) w 22 5 i0 _ Try.underlying22 hi hz0 .i64 .i64 8 8 (by omega) (Int.le_refl _) (by rw [hz2]; omega) (by omega)
    simp only [hz1] at h
    exact h
  have hB0 : Bytes (w.alloc (.cells (madeCells #[.int .u8 0] 8) 5)) (some ⟨w.heap.size, 0, none⟩) 8 (fun _ => 0) :=
    ⟨fun i => by simp, .inr ⟨_, 0, rfl, fun j hj => by rw [Nat.zero_add]; exact new_cell' w _ _ j _ (made_one _ _ j hj)⟩⟩
  have F4 : savedF (fun _ => 0) 65540 16909060 true 4 = 4 := by decide
  have F5 : loadZ (savedF (fun _ => 0) 65540 16909060 true) 65541 false = 3 := by decide
  have S1 : Hid (∀ W, Bytes W (some ⟨w.heap.size, 0, none⟩) 8 (fun _ => 0) → SaveYes Try.prog 11 4 65540 16909060 true (some ⟨w.heap.size, 0, none⟩) 8 8 (fun _ => 0) W) := fun W hW => save_yes 4 65540 16909060 true _ 8 8 _ W (by omega) (by omega) rfl (by omega) (by omega) (by omega) (by omega) hW (by decide)
  have S2 : Hid (∀ W, Bytes W (some ⟨w.heap.size, 0, none⟩) 8 (fun _ => 0) → SaveNo Try.prog 11 4 65536 1 true (some ⟨w.heap.size, 0, none⟩) 8 8 W) := fun W hW => save_no 4 65536 1 true _ 8 8 _ W (by omega) (by omega) rfl (by omega) (by omega) hW (by decide)
  have L1 : Hid (∀ W a c, 8 ≤ c → Bytes W a 8 (savedF (fun _ => 0) 65540 16909060 true) → Calls Try.prog 9 #[memV 4 a 8 c, .int .u32 65541, .bool false] W fun e w' => e = .returned (.tuple #[.int .u32 3, .bool true]) ∧ Below W.heap.size W w') := by
    intro W a c hc hW
    have h := load_any 4 65541 false a 8 c _ W (by omega) hc (by omega) (by omega) hW
    have e : okB 8 65541 false = true := by decide
    rw [e, if_pos rfl, F5] at h; exact h
  have HA : Hid (Below w.heap.size w ((w.alloc (.cells (madeCells #[.int .u8 0] 8) 5)).alloc (.cells #[.int .i64 4, .slice (some ⟨w.heap.size, 0, none⟩) 8 8] 24))) := ((Below.refl _ w).alloc (Nat.le_refl _) _).alloc (by simp) _
  have HB0 : Hid (Bytes ((w.alloc (.cells (madeCells #[.int .u8 0] 8) 5)).alloc (.cells #[.int .i64 4, .slice (some ⟨w.heap.size, 0, none⟩) 8 8] 24)) (some ⟨w.heap.size, 0, none⟩) 8 (fun _ => 0)) := hB0.later ((Below.refl _ _).alloc (Nat.le_refl _) _)
  have HM0 : Hid (MemAt ((w.alloc (.cells (madeCells #[.int .u8 0] 8) 5)).alloc (.cells #[.int .i64 4, .slice (some ⟨w.heap.size, 0, none⟩) 8 8] 24)) (w.heap.size + 1) 4 (some ⟨w.heap.size, 0, none⟩) 8 8) := by
    have h := MemAt.new (w.alloc (.cells (madeCells #[.int .u8 0] 8) 5)) 4 (some ⟨w.heap.size, 0, none⟩) 8 8 24
    rwa [show (w.alloc (.cells (madeCells #[.int .u8 0] 8) 5)).heap.size = w.heap.size + 1 from by simp] at h
  clear hi hz0 hz1 hz2 hB0
  go_enter Try.func8, Try.ntmps8
  go_upto_region 2 with fail
  generalize (w.alloc (.cells (madeCells #[.int .u8 0] 8) 5)).alloc (.cells #[.int .i64 4, .slice (some ⟨w.heap.size, 0, none⟩) 8 8] 24) = w0 at HA HB0 HM0 ⊢
  obtain ⟨x0, x1⟩ := id HM0.out
  have z4 : w0.cell? ⟨w.heap.size, 4, none⟩ = some (.int .u8 0) := by
    obtain ⟨_, h | ⟨b, o, e, h⟩⟩ := HB0.out
    · cases h
    · simp only [Option.some.injEq, Addr.mk.injEq] at e
      obtain ⟨rfl, rfl, _⟩ := e
      simpa using h 4 (by omega)
  go_wp2_with (first
    | (go_at_call_of 11 (Value.int IntKind.u32 65540); refine (S1.out _ HB0.out).mono ?_; rintro e w1 ⟨g, cap', rfl, hg, hc, hR, hb1⟩; have A1 : Below w1.heap.size w1 (w1.alloc (.cells #[.int .i64 4, .slice (some ⟨g, 0, none⟩) 8 cap'] 24)) := (Below.refl _ _).alloc (Nat.le_refl _) _; have Q1 := (HM0.out.later hb1).later A1; obtain ⟨y0, y1⟩ := id Q1; have N1 := MemAt.new w1 4 (some ⟨g, 0, none⟩) 8 cap' 24; obtain ⟨n0, n1⟩ := id N1)
    | (go_at_call 11; refine (S2.out _ ((HB0.out.later hb1).later A1)).mono ?_; rintro e w2 ⟨rfl, hb2⟩; have A2 : Below w2.heap.size w2 (w2.alloc (.cells #[.int .i64 4, .slice (some ⟨w.heap.size, 0, none⟩) 8 8] 24)) := (Below.refl _ _).alloc (Nat.le_refl _) _; have Q2 := (Q1.later hb2).later A2; obtain ⟨p0, p1⟩ := id Q2; have N2 := (N1.later hb2).later A2; obtain ⟨q0, q1⟩ := id N2)
    | (go_at_call 9; have HBn : Bytes w1 (some ⟨g, 0, none⟩) 8 (savedF (fun _ => 0) 65540 16909060 true) := bytes_of_rowB hR (saved_bd _ (fun i => by simp) _ _ _); refine (L1.out _ _ _ hc (((HBn.later A1).later hb2).later A2)).mono ?_; rintro e w3 ⟨rfl, hb3⟩; have Q3 := Q2.later hb3; obtain ⟨r0, r1⟩ := id Q3; have N3 := N2.later hb3; obtain ⟨s0, s1⟩ := id N3; have g4 : w3.cell? ⟨g, 4, none⟩ = some (.int .u8 4) := (by have h := ((((hR.later A1).later hb2).later A2).later hb3).1 4 (by omega); rwa [F4] at h); have z3 := cell_later' (cell_later' (cell_later' (cell_later' (cell_later' z4 hb1) A1) hb2) A2) hb3))
  go_ret
  exact ⟨rfl, bnext (bnext (bnext (bnext (HA.out.trans (hb1.mono HA.out.size)) A1) hb2) A2) hb3⟩
end Go.Proofs.Ytjadepeohljljaa
