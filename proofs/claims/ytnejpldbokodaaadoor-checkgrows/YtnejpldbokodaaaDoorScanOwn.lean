/- What the code's own functions of the scanner return. -/
import Derived.Test.YtnejpldbokodaaaDoorScanOwnA
import Derived.Lib.ConvBytes
namespace Go.Proofs.YtnejpldbokodaaaDoor
open Go.ChangeShapes Go.WideShapes Go.ChangeAt Go.RowKit
set_option linter.unusedVariables false
set_option linter.unusedSimpArgs false
set_option maxRecDepth 100000 in
theorem put_own (x : Int) (k : Nat) (w : World) (x0 : 0 ≤ x) (x1 : x < 4294967296) (k0 : 1 ≤ k) (k1 : k ≤ 4) :
    Calls Tryd.prog 71 #[.int .i64 x, .int .i64 k] w fun e w' => ∃ a c, e = .returned (.slice a k c) ∧ w'.ownsRow w.heap.size 5 1 (.slice a k c) k (cellsK .u8 k fun i => x / 256 ^ i % 256) ∧ Below w.heap.size w w' := by
  have hw : IntKind.u32.wrap x = x := by simp [IntKind.wrap, IntKind.bits, IntKind.signed]; omega
  have k0' : (0 : Int) ≤ k := by omega
  have k1' : (k : Int) ≤ 4 := by omega
  have FB : Hid (∀ i, 0 ≤ x / 256 ^ i % 256 ∧ x / 256 ^ i % 256 < 256) := fun i => ⟨Int.emod_nonneg _ (by decide), Int.emod_lt_of_pos _ (by decide)⟩
  have PB : Hid (∀ W, Calls Tryd.prog 90 #[.int .u32 x] W fun e w' => e = .returned (.agg #[.int .u8 (x / 256 ^ 0 % 256), .int .u8 (x / 256 ^ 1 % 256), .int .u8 (x / 256 ^ 2 % 256), .int .u8 (x / 256 ^ 3 % 256)]) ∧ Below W.heap.size W w') := fun W => by
    refine (put_any x W x0 x1).mono ?_
    rintro e w' ⟨rfl, rfl⟩
    refine ⟨?_, (Below.refl _ _).alloc (Nat.le_refl _) _⟩
    have p3 : x / 256 ^ 3 % 256 = x / 16777216 := by
      have : (256 : Int) ^ 3 = 16777216 := by decide
      rw [this]; omega
    rw [p3]
    simp [bytesOf]
  obtain ⟨y, ey⟩ : ∃ y : Nat → Int, ∀ i, y i = x / 256 ^ i % 256 := ⟨_, fun _ => rfl⟩
  have EY : Hid (∀ i, y i = x / 256 ^ i % 256) := ey
  rw [← ey 0, ← ey 1, ← ey 2, ← ey 3] at PB
  clear ey
  have CL : Hid (∀ W a c, Head a k c → Bytes W a k (fun i => x / 256 ^ i % 256) → Calls Tryd.prog 91 #[.slice a k c] W fun e w' => ∃ a' c', e = .returned (.slice a' k c') ∧ w'.ownsRow W.heap.size 5 1 (.slice a' k c') k (cellsK .u8 k fun i => x / 256 ^ i % 256) ∧ Below W.heap.size W w') := fun W a c hh hb => clone_own W a k c _ (by omega) hh hb
  have NC : Hid (∀ (W : World) i, i < k → (W.alloc (.cells #[.int .u8 (y 0), .int .u8 (y 1), .int .u8 (y 2), .int .u8 (y 3)] 130)).cell? ⟨W.heap.size, 0 + i, none⟩ = some (.int .u8 (x / 256 ^ i % 256))) := fun W i hi => by
    rw [Nat.zero_add]
    refine new_cell' W _ _ i _ ?_
    rw [← EY.out]
    rcases (by omega : i = 0 ∨ i = 1 ∨ i = 2 ∨ i = 3) with rfl | rfl | rfl | rfl <;> rfl
  go_enter Tryd.func71, Tryd.ntmps71
  go_wp2_with (first
    | (go_at_call 90; refine (PB.out _).mono ?_; rintro e w1 ⟨rfl, b1⟩)
    | (go_at_call 91; refine (CL.out _ (some ⟨w1.heap.size, 0, none⟩) 4 ⟨by omega, fun e => by cases e⟩ ⟨FB.out, .inr ⟨w1.heap.size, 0, rfl, NC.out w1⟩⟩).mono ?_; rintro e w2 ⟨a2, c2, rfl, o2, b2⟩))
  go_ret
  exact ⟨a2, c2, rfl, own_mono o2 (keep_alloc8 b1 _).size, bnext (keep_alloc8 b1 _) b2⟩
/-- A text's bytes, in memory of their own. -/
theorem bytes_world (w : World) (s : ByteArray) : Below w.heap.size w (Lib.bytesWorld w 5 s) ∧ Bytes (Lib.bytesWorld w 5 s) (some ⟨w.heap.size, 0, none⟩) s.size (byteZ s) := by
  refine ⟨⟨?_, ?_, ?_, by rw [Lib.bytesWorld_size]; omega, fun k hk => Lib.bytesWorld_at_old w _ s k hk⟩, byteZ_bd s, .inr ⟨_, _, rfl, fun i hi => ?_⟩⟩
  · simp [Lib.bytesWorld, World.freeze, World.alloc, World.drew, -World.alloc_eq, -World.drew_eq]
  · simp [Lib.bytesWorld, World.freeze, World.alloc, World.drew, -World.alloc_eq, -World.drew_eq]
  · simp [Lib.bytesWorld, World.freeze, World.alloc, World.drew, -World.alloc_eq, -World.drew_eq]
  · rw [Nat.zero_add, Lib.bytesWorld_cell w _ s i hi]
    have hl : i < s.data.size := hi
    simp [byteZ, List.getD, hl]
set_option maxRecDepth 100000 in
theorem putname_own (s : ByteArray) (w : World) (hs : namedB s = true) :
    Calls Tryd.prog 72 #[.string s] w fun e w' => ∃ a c, e = .returned (.slice a (s.size + 1) c) ∧ w'.ownsRow w.heap.size 5 1 (.slice a (s.size + 1) c) (s.size + 1) (cellsK .u8 (s.size + 1) fun i => if i = 0 then (s.size : Int) else byteZ s (i - 1)) ∧ Below w.heap.size w w' := by
  have hsn : 1 ≤ s.size ∧ s.size ≤ 32 := by
    have h := hs
    unfold namedB at h
    rw [decide_eq_true_eq] at h
    exact ⟨h.1, h.2.1⟩
  have PU : Hid (∀ W, Calls Tryd.prog 71 #[.int .i64 (s.size : Int), .int .i64 1] W fun e w' => ∃ a c, e = .returned (.slice a 1 c) ∧ w'.ownsRow W.heap.size 5 1 (.slice a 1 c) 1 (cellsK .u8 1 fun i => (s.size : Int) / 256 ^ i % 256) ∧ Below W.heap.size W w') := fun W => put_own _ 1 W (by omega) (by omega) (by omega) (by omega)
  have CV : ∀ W, (convert 9 22 (.string s)).run Tryd.prog W = .ok (.slice (some ⟨W.heap.size, 0, none⟩) s.size (grownCap W s.size 0 5)) (Lib.bytesWorld W 5 s) := fun W => Lib.run_convert_string_bytes W _ _ 5 s Tryd.underlying9 Tryd.underlying22 Tryd.underlying5
  have CC : Hid (∀ (W1 W : World) a1 c1 p, W1.ownsRow w.heap.size 5 1 (.slice a1 1 c1) 1 (cellsK .u8 1 fun i => (s.size : Int) / 256 ^ i % 256) → Below w.heap.size w W1 → Below (Lib.bytesWorld W1 5 s).heap.size (Lib.bytesWorld W1 5 s) W → W.cell? ⟨p, 0, none⟩ = some (.slice a1 1 c1) → W.cell? ⟨p, 1, none⟩ = some (.slice (some ⟨W1.heap.size, 0, none⟩) s.size (grownCap W1 s.size 0 5)) →
      Calls Tryd.prog 92 #[.slice (some ⟨p, 0, none⟩) 2 2] W fun e w' => ∃ a c, e = .returned (.slice a (s.size + 1) c) ∧ w'.ownsRow w.heap.size 5 1 (.slice a (s.size + 1) c) (s.size + 1) (cellsK .u8 (s.size + 1) fun i => if i = 0 then (s.size : Int) else byteZ s (i - 1)) ∧ Below w.heap.size w w') := fun W1 W a1 c1 p o1 b1 b2 p0 p1 => by
    obtain ⟨q1, q2⟩ := bytes_world W1 s
    have r1 := own_bytes o1 (fun i => ⟨Int.emod_nonneg _ (by decide), Int.emod_lt_of_pos _ (by decide)⟩)
    have bd : ∀ (f : Nat → Int), (∀ i, 0 ≤ f i ∧ f i < 256) → ∀ i, (Lit.int .u8 (f i)).wf = true := fun f hf i => by have := hf i; simp [Lit.wf, IntKind.min, IntKind.max, IntKind.signed, IntKind.bits]; omega
    have t1 : Bytes W a1 1 _ := (r1.2.later q1).later b2
    have t2 : Bytes W (some ⟨W1.heap.size, 0, none⟩) s.size (byteZ s) := q2.later b2
    refine (concat_b W p a1 _ 1 s.size c1 _ _ (byteZ s) (by omega) r1.1 ⟨grownCap_ge W1 _ 0 _, fun e => by cases e⟩ ⟨bd _ t1.1, t1.2⟩ ⟨bd _ t2.1, t2.2⟩ p0 p1).mono ?_
    rintro e w' ⟨a', c', rfl, ow, hb⟩
    rw [Nat.add_comm 1 s.size] at ow ⊢
    have bel := bnext (bnext b1 q1) b2
    refine ⟨a', c', rfl, ?_, bnext bel hb⟩
    have ow' := own_mono ow bel.size
    rwa [cellsK_congr .u8 (s.size + 1) (g := fun i => if i = 0 then (s.size : Int) else byteZ s (i - 1)) (fun j hj => ?_)] at ow'
    by_cases h0 : j = 0
    · subst h0
      simp
      omega
    · rw [if_neg h0, if_neg (by omega)]
  clear hs hsn
  go_enter Tryd.func72, Tryd.ntmps72
  go_wp2_with (first
    | (go_at_call 71; refine (PU.out _).mono ?_; rintro e w1 ⟨a1, c1, rfl, o1, b1⟩)
    | (go_at_call 92; refine (CC.out w1 _ a1 c1 _ o1 b1 ((Below.refl _ _).alloc (Nat.le_refl _) _) (new_cell' _ _ _ 0 _ rfl) (new_cell' _ _ _ 1 _ rfl)).mono ?_; rintro e w2 ⟨a2, c2, rfl, o2, b2⟩))
  go_ret
  exact ⟨a2, c2, rfl, o2, b2⟩
end Go.Proofs.YtnejpldbokodaaaDoor
