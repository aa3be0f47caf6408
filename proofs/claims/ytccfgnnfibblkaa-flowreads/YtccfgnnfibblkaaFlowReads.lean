/- For every instruction and every small number FlowReads returns true: what is read hangs on the registers alone: with another Imm it is the same; with the register 0 in each place nothing is read or written. No condition. -/
import Derived.Test.YtccfgnnfibblkaaFrame
import Derived.Test.YtccfgnnfibblkaaFlowAwake
import Derived.Test.YtccfgnnfibblkaaFlowMath
import Derived.Test.YtccfgnnfibblkaaFlowRef3
import Derived.Test.YtccfgnnfibblkaaCodeRef
import Derived.Deep.RegionHeld3
import Derived.Deep.RegionWith
import Derived.WalkKit
import Derived.ProofKit
namespace Go.Proofs.Ytccfgnnfibblkaa.flowReads
open Go.ChangeShapes Go.WideShapes Go.ChangeAt Go.RowKit Go.Sort
set_option linter.unusedVariables false

theorem all3 {w : World} {k1 k2 k3 : Nat} {x0 x1 x2 x3 x4 y0 y1 y2 y3 y4 z0 z1 z2 z3 z4 : Int} (h1 : InsAt w k1 x0 x1 x2 x3 x4) (h2 : InsAt w k2 y0 y1 y2 y3 y4) (h3 : InsAt w k3 z0 z1 z2 z3 z4) :
    w.cell? ⟨k1, 0, none⟩ = some (.int .i64 x0) ∧ w.cell? ⟨k1, 1, none⟩ = some (.int .i64 x1) ∧ w.cell? ⟨k1, 2, none⟩ = some (.int .i64 x2) ∧ w.cell? ⟨k1, 3, none⟩ = some (.int .i64 x3) ∧ w.cell? ⟨k1, 4, none⟩ = some (.int .i64 x4) ∧ w.cell? ⟨k2, 0, none⟩ = some (.int .i64 y0) ∧ w.cell? ⟨k2, 1, none⟩ = some (.int .i64 y1) ∧ w.cell? ⟨k2, 2, none⟩ = some (.int .i64 y2) ∧ w.cell? ⟨k2, 3, none⟩ = some (.int .i64 y3) ∧ w.cell? ⟨k2, 4, none⟩ = some (.int .i64 y4) ∧ w.cell? ⟨k3, 0, none⟩ = some (.int .i64 z0) ∧ w.cell? ⟨k3, 1, none⟩ = some (.int .i64 z1) ∧ w.cell? ⟨k3, 2, none⟩ = some (.int .i64 z2) ∧ w.cell? ⟨k3, 3, none⟩ = some (.int .i64 z3) ∧ w.cell? ⟨k3, 4, none⟩ = some (.int .i64 z4) := ⟨h1.1, h1.2.1, h1.2.2.1, h1.2.2.2.1, h1.2.2.2.2, h2.1, h2.2.1, h2.2.2.1, h2.2.2.2.1, h2.2.2.2.2, h3.1, h3.2.1, h3.2.2.1, h3.2.2.2.1, h3.2.2.2.2⟩
set_option maxHeartbeats 4000000 in
theorem walk (op a b c imm : Int) (wf : (Lit.int .i64 op).wf = true ∧ (Lit.int .i64 a).wf = true ∧ (Lit.int .i64 b).wf = true ∧ (Lit.int .i64 c).wf = true ∧ (Lit.int .i64 imm).wf = true) (n : Int) (wn : (Lit.int .u8 n).wf = true) (w : World) :
    Calls Try.prog 7 #[.agg #[.int .i64 op, .int .i64 a, .int .i64 b, .int .i64 c, .int .i64 imm], .int .u8 n] w fun e w' => e = .returned (.bool true) ∧ Below w.heap.size w w' := by
  clear wf
  obtain ⟨n0, n1⟩ := wf_u8_bd wn
  clear wn
  have HG : Hid (∀ W, Calls Try.prog 9 #[.agg #[.int .i64 op, .int .i64 a, .int .i64 b, .int .i64 c, .int .i64 imm]] W fun e w' => e = .returned (.bool (rightB op a b c imm)) ∧ Below W.heap.size W w') := fun W => rright_any op a b c imm W
  cases hr : rightB op a b c imm
  · rw [hr] at HG
    go_enter Try.func7, Try.ntmps7
    go_wp2_with (first
      | (go_at_call 9; refine (HG.out _).mono ?_; rintro e w2 ⟨rfl, hb2⟩)
      | (go_at_call 8; revert hb2; intro hb2; refine (awake_any _).mono ?_; rintro e w3 ⟨rfl, hb3⟩)
      | (go_at_call 8; refine (awake_any _).mono ?_; rintro e w1 ⟨rfl, hb1⟩; obtain ⟨x0, x1, x2, x3, x4⟩ := (InsAt.new w op a b c imm 23).later hb1))
    go_ret
    exact ⟨rfl, (bnext ((bnext (((Below.refl _ w).alloc (Nat.le_refl _) _).trans (hb1.mono (by simp))) hb2)) hb3)⟩
  · rw [hr] at HG
    obtain ⟨a0, a1, b0, b1, c0, c1⟩ := right_regs _ _ _ _ _ hr
    have hop : 0 ≤ op ∧ op < 26 := by simp [rightB] at hr; omega
    have hlen := read_two op a b c
    have k0 := fun W => reads_any op 0 0 0 imm W hop.1 hop.2
    have e0 : readL op 0 0 0 = [] := by
      unfold readL rawL
      repeat' split
      all_goals first | exact rising_nil | (rw [rising_one]; rfl) | (rw [rising_two]; rfl)
    rw [e0] at k0
    have k1 := fun W => writes_any op 0 0 0 imm W hop.1 hop.2
    have e1 : writesZ op 0 = -1 := by unfold writesZ; simp
    rw [e1] at k1
    have k2 := fun W => kind_any op 0 0 0 imm W hop.1 hop.2
    have k3 := fun W => kind_any op a b c imm W hop.1 hop.2
    have k4 := fun W => rright_any op a b c (n % 100) W
    have k5 := fun W => reads_any op a b c imm W hop.1 hop.2
    have k6 := fun W => reads_any op a b c (n % 100) W hop.1 hop.2
    have k7 := fun W => writes_any op a b c imm W hop.1 hop.2
    have k8 := fun W => writes_any op a b c (n % 100) W hop.1 hop.2
    generalize readL op a b c = L at k5 k6 hlen
    generalize kindZ op = K at k2 k3
    generalize writesZ op a = Z at k7 k8
    generalize rightB op a b c (n % 100) = R at k4
    have K0 : Hid _ := k0
    have K1 : Hid _ := k1
    have K2 : Hid _ := k2
    have K3 : Hid _ := k3
    have K5 : Hid _ := k5
    have K6 : Hid _ := k6
    have K7 : Hid _ := k7
    have K8 : Hid _ := k8
    clear k0 k1 k2 k3 k5 k6 k7 k8 hop a0 a1 b0 b1 c0 c1 hr e0 e1
    have hm : n.tmod 100 = n % 100 := by rw [Int.tmod_eq_emod_of_nonneg n0]
    generalize hq : n % 100 = q at *
    have q0 : 0 ≤ q ∧ q < 100 := by omega
    cases R
    · have K4 : Hid _ := k4
      clear k4
      go_enter Try.func7, Try.ntmps7
      go_wp2_with (first
        | (go_at_call 9; refine (HG.out _).mono ?_; rintro e w2 ⟨rfl, hb2⟩; have Q2 := Q1.later hb2; obtain ⟨y0, y1, y2, y3, y4⟩ := id Q2; have hs2 : w.heap.size < w2.heap.size := (by have := hb1.size; have := hb2.size; simp at *; omega))
        | (go_at_call 8; refine (awake_any _).mono ?_; rintro e w1 ⟨rfl, hb1⟩; have Q1 := (InsAt.new w op a b c imm 23).later hb1; obtain ⟨x0, x1, x2, x3, x4⟩ := id Q1))
      obtain ⟨w9, hw9⟩ : ∃ x, x = ((w2.alloc (.cells #[.int .i64 op, .int .i64 a, .int .i64 b, .int .i64 c, .int .i64 q] 23)).alloc (.cells #[.int .i64 op, .int .i64 0, .int .i64 0, .int .i64 0, .int .i64 imm] 23)) := ⟨_, rfl⟩
      have hbA : Below w2.heap.size w2 ((w2.alloc (.cells #[.int .i64 op, .int .i64 a, .int .i64 b, .int .i64 c, .int .i64 q] 23)).alloc (.cells #[.int .i64 op, .int .i64 0, .int .i64 0, .int .i64 0, .int .i64 imm] 23)) := ((Below.refl _ w2).alloc (Nat.le_refl _) _).alloc (by simp) _
      have A9 := Q2.later hbA
      have B9 := (InsAt.new w2 op a b c q 23).later ((Below.refl _ _).alloc (Nat.le_refl _) (.cells #[.int .i64 op, .int .i64 0, .int .i64 0, .int .i64 0, .int .i64 imm] 23))
      have C9 := InsAt.new (w2.alloc (.cells #[.int .i64 op, .int .i64 a, .int .i64 b, .int .i64 c, .int .i64 q] 23)) op 0 0 0 imm 23
      rw [show (w2.alloc (.cells #[.int .i64 op, .int .i64 a, .int .i64 b, .int .i64 c, .int .i64 q] 23)).heap.size = w2.heap.size + 1 from by simp] at C9
      rw [← hw9] at hbA A9 B9 C9 ⊢
      have HB9 : Hid (Below w.heap.size w w9) := (bnext ((bnext (((Below.refl _ w).alloc (Nat.le_refl _) _).trans (hb1.mono (by simp))) hb2)) hbA)
      clear hw9 hbA hb1 hb2 x0 x1 x2 x3 x4 y0 y1 y2 y3 y4 Q1 Q2
      have D9 := all3 A9 B9 C9
      obtain ⟨p0, p1, p2, p3, p4⟩ := id A9
      obtain ⟨r0, r1, r2, r3, r4⟩ := id B9
      obtain ⟨s0, s1, s2, s3, s4⟩ := id C9
      have hu : undef = Value.tuple #[] := rfl
      first
      | (go_region_with (first
        | (go_at_call_of 15 (Value.agg #[.int .i64 op, .int .i64 0, .int .i64 0, .int .i64 0, .int .i64 imm]); refine (K0.out _).mono ?_; rintro e w10 ⟨v10, rfl, ⟨a10, c10, rfl, _⟩, hb10⟩; have A10 := A9.later (((Below.refl _ w9).drew).trans hb10); have B10 := B9.later (((Below.refl _ w9).drew).trans hb10); have C10 := C9.later (((Below.refl _ w9).drew).trans hb10); obtain ⟨p0, p1, p2, p3, p4⟩ := id A10; obtain ⟨r0, r1, r2, r3, r4⟩ := id B10; obtain ⟨s0, s1, s2, s3, s4⟩ := id C10)
        | (go_at_call_of 12 (Value.agg #[.int .i64 op, .int .i64 0, .int .i64 0, .int .i64 0, .int .i64 imm]); refine (K1.out _).mono ?_; rintro e w11 ⟨rfl, hb11⟩; have A11 := A10.later hb11; have B11 := B10.later hb11; have C11 := C10.later hb11; obtain ⟨p0, p1, p2, p3, p4⟩ := id A11; obtain ⟨r0, r1, r2, r3, r4⟩ := id B11; obtain ⟨s0, s1, s2, s3, s4⟩ := id C11)
        | (go_at_call_of 11 (Value.agg #[.int .i64 op, .int .i64 0, .int .i64 0, .int .i64 0, .int .i64 imm]); refine (K2.out _).mono ?_; rintro e w12 ⟨rfl, hb12⟩; have A12 := A11.later hb12; have B12 := B11.later hb12; have C12 := C11.later hb12; obtain ⟨p0, p1, p2, p3, p4⟩ := id A12; obtain ⟨r0, r1, r2, r3, r4⟩ := id B12; obtain ⟨s0, s1, s2, s3, s4⟩ := id C12)
        | (go_at_call_of 11 (Value.agg #[.int .i64 op, .int .i64 a, .int .i64 b, .int .i64 c, .int .i64 imm]); refine (K3.out _).mono ?_; rintro e w13 ⟨rfl, hb13⟩; have A13 := A12.later hb13; have B13 := B12.later hb13; have C13 := C12.later hb13; obtain ⟨p0, p1, p2, p3, p4⟩ := id A13; obtain ⟨r0, r1, r2, r3, r4⟩ := id B13; obtain ⟨s0, s1, s2, s3, s4⟩ := id C13)
        | (go_at_call 9; refine (K4.out _).mono ?_; rintro e w14 ⟨rfl, hb14⟩; have A14 := A13.later hb14; have B14 := B13.later hb14; have C14 := C13.later hb14; obtain ⟨p0, p1, p2, p3, p4⟩ := id A14; obtain ⟨r0, r1, r2, r3, r4⟩ := id B14; obtain ⟨s0, s1, s2, s3, s4⟩ := id C14)))
      | fail
      all_goals clear hu
      all_goals
        go_wp2
        go_ret
        exact ⟨rfl, ((bnext ((bnext ((bnext ((bnext ((bnext HB9.out (((Below.refl _ w9).drew).trans hb10))) hb11)) hb12)) hb13)) hb14))⟩
    · have K4 : Hid _ := k4
      clear k4
      go_enter Try.func7, Try.ntmps7
      go_wp2_with (first
        | (go_at_call 9; refine (HG.out _).mono ?_; rintro e w2 ⟨rfl, hb2⟩; have Q2 := Q1.later hb2; obtain ⟨y0, y1, y2, y3, y4⟩ := id Q2; have hs2 : w.heap.size < w2.heap.size := (by have := hb1.size; have := hb2.size; simp at *; omega))
        | (go_at_call 8; refine (awake_any _).mono ?_; rintro e w1 ⟨rfl, hb1⟩; have Q1 := (InsAt.new w op a b c imm 23).later hb1; obtain ⟨x0, x1, x2, x3, x4⟩ := id Q1))
      obtain ⟨w9, hw9⟩ : ∃ x, x = ((w2.alloc (.cells #[.int .i64 op, .int .i64 a, .int .i64 b, .int .i64 c, .int .i64 q] 23)).alloc (.cells #[.int .i64 op, .int .i64 0, .int .i64 0, .int .i64 0, .int .i64 imm] 23)) := ⟨_, rfl⟩
      have hbA : Below w2.heap.size w2 ((w2.alloc (.cells #[.int .i64 op, .int .i64 a, .int .i64 b, .int .i64 c, .int .i64 q] 23)).alloc (.cells #[.int .i64 op, .int .i64 0, .int .i64 0, .int .i64 0, .int .i64 imm] 23)) := ((Below.refl _ w2).alloc (Nat.le_refl _) _).alloc (by simp) _
      have A9 := Q2.later hbA
      have B9 := (InsAt.new w2 op a b c q 23).later ((Below.refl _ _).alloc (Nat.le_refl _) (.cells #[.int .i64 op, .int .i64 0, .int .i64 0, .int .i64 0, .int .i64 imm] 23))
      have C9 := InsAt.new (w2.alloc (.cells #[.int .i64 op, .int .i64 a, .int .i64 b, .int .i64 c, .int .i64 q] 23)) op 0 0 0 imm 23
      rw [show (w2.alloc (.cells #[.int .i64 op, .int .i64 a, .int .i64 b, .int .i64 c, .int .i64 q] 23)).heap.size = w2.heap.size + 1 from by simp] at C9
      rw [← hw9] at hbA A9 B9 C9 ⊢
      have HB9 : Hid (Below w.heap.size w w9) := (bnext ((bnext (((Below.refl _ w).alloc (Nat.le_refl _) _).trans (hb1.mono (by simp))) hb2)) hbA)
      clear hw9 hbA hb1 hb2 x0 x1 x2 x3 x4 y0 y1 y2 y3 y4 Q1 Q2
      have D9 := all3 A9 B9 C9
      go_region_held3 (fun w' => w'.cell? ⟨w.heap.size, 0, none⟩ = some (.int .i64 op) ∧ w'.cell? ⟨w.heap.size, 1, none⟩ = some (.int .i64 a) ∧ w'.cell? ⟨w.heap.size, 2, none⟩ = some (.int .i64 b) ∧ w'.cell? ⟨w.heap.size, 3, none⟩ = some (.int .i64 c) ∧ w'.cell? ⟨w.heap.size, 4, none⟩ = some (.int .i64 imm) ∧ w'.cell? ⟨w2.heap.size, 0, none⟩ = some (.int .i64 op) ∧ w'.cell? ⟨w2.heap.size, 1, none⟩ = some (.int .i64 a) ∧ w'.cell? ⟨w2.heap.size, 2, none⟩ = some (.int .i64 b) ∧ w'.cell? ⟨w2.heap.size, 3, none⟩ = some (.int .i64 c) ∧ w'.cell? ⟨w2.heap.size, 4, none⟩ = some (.int .i64 q) ∧ w'.cell? ⟨w2.heap.size + 1, 0, none⟩ = some (.int .i64 op) ∧ w'.cell? ⟨w2.heap.size + 1, 1, none⟩ = some (.int .i64 0) ∧ w'.cell? ⟨w2.heap.size + 1, 2, none⟩ = some (.int .i64 0) ∧ w'.cell? ⟨w2.heap.size + 1, 3, none⟩ = some (.int .i64 0) ∧ w'.cell? ⟨w2.heap.size + 1, 4, none⟩ = some (.int .i64 imm)) (first | assumption | exact D9 | go_keep)
      (first
        | (go_at_call_of 15 (Value.agg #[.int .i64 op, .int .i64 0, .int .i64 0, .int .i64 0, .int .i64 imm]); refine (K0.out _).mono ?_; rintro e w10 ⟨v10, rfl, ⟨a10, c10, rfl, _⟩, hb10⟩; have A10 := A9.later (((Below.refl _ w9).drew).trans hb10); have B10 := B9.later (((Below.refl _ w9).drew).trans hb10); have C10 := C9.later (((Below.refl _ w9).drew).trans hb10); have D10 := all3 A10 B10 C10)
        | (go_at_call_of 12 (Value.agg #[.int .i64 op, .int .i64 0, .int .i64 0, .int .i64 0, .int .i64 imm]); refine (K1.out _).mono ?_; rintro e w11 ⟨rfl, hb11⟩; have A11 := A10.later hb11; have B11 := B10.later hb11; have C11 := C10.later hb11; have D11 := all3 A11 B11 C11)
        | (go_at_call_of 11 (Value.agg #[.int .i64 op, .int .i64 0, .int .i64 0, .int .i64 0, .int .i64 imm]); refine (K2.out _).mono ?_; rintro e w12 ⟨rfl, hb12⟩; have A12 := A11.later hb12; have B12 := B11.later hb12; have C12 := C11.later hb12; have D12 := all3 A12 B12 C12)
        | (go_at_call_of 11 (Value.agg #[.int .i64 op, .int .i64 a, .int .i64 b, .int .i64 c, .int .i64 imm]); refine (K3.out _).mono ?_; rintro e w13 ⟨rfl, hb13⟩; have A13 := A12.later hb13; have B13 := B12.later hb13; have C13 := C12.later hb13; have D13 := all3 A13 B13 C13)
        | (go_at_call 9; refine (K4.out _).mono ?_; rintro e w14 ⟨rfl, hb14⟩; have A14 := A13.later hb14; have B14 := B13.later hb14; have C14 := C13.later hb14; have D14 := all3 A14 B14 C14)
        | (go_at_call_of 15 (Value.agg #[.int .i64 op, .int .i64 a, .int .i64 b, .int .i64 c, .int .i64 imm]); refine (K5.out _).mono ?_; rintro e w15 ⟨v15, rfl, hi15, hb15⟩; have A15 := A14.later hb15; have B15 := B14.later hb15; have C15 := C14.later hb15; have D15 := all3 A15 B15 C15)
        | (go_at_call_of 15 (Value.agg #[.int .i64 op, .int .i64 a, .int .i64 b, .int .i64 c, .int .i64 q]); refine (K6.out _).mono ?_; rintro e w16 ⟨v16, rfl, hi16, hb16⟩; have A16 := A15.later hb16; have B16 := B15.later hb16; have C16 := C15.later hb16; have D16 := all3 A16 B16 C16)
        | (go_at_call 14; refine (ints_same w16 _ _ v15 v16 L (Nat.le_trans hlen (by omega)) (hi15.later hb16) hi16).mono ?_; rintro e w17 ⟨rfl, hb17⟩; have A17 := A16.later hb17; have B17 := B16.later hb17; have C17 := C16.later hb17; have D17 := all3 A17 B17 C17)
        | (go_at_call_of 12 (Value.agg #[.int .i64 op, .int .i64 a, .int .i64 b, .int .i64 c, .int .i64 imm]); refine (K7.out _).mono ?_; rintro e w18 ⟨rfl, hb18⟩; have A18 := A17.later hb18; have B18 := B17.later hb18; have C18 := C17.later hb18; have D18 := all3 A18 B18 C18)
        | (go_at_call_of 12 (Value.agg #[.int .i64 op, .int .i64 a, .int .i64 b, .int .i64 c, .int .i64 q]); refine (K8.out _).mono ?_; rintro e w19 ⟨rfl, hb19⟩; have A19 := A18.later hb19; have B19 := B18.later hb19; have C19 := C18.later hb19; have D19 := all3 A19 B19 C19))
      go_wp2
      go_ret
      exact ⟨rfl, ((bnext ((bnext ((bnext ((bnext ((bnext ((bnext ((bnext ((bnext ((bnext ((bnext HB9.out (((Below.refl _ w9).drew).trans hb10))) hb11)) hb12)) hb13)) hb14)) hb15)) hb16)) hb17)) hb18)) hb19))⟩

/-! ### The row's step -/
set_option maxRecDepth 100000 in
theorem lifted (os : Os) (started : os.Started) (H : Type) (enc : TypeId × Value → H) :
    ReturnsInHanded {} Try.checked os 7 .any (Rows.flowReadsSpec.pre6 enc Try.prog Try.f7 Rows.flowReadsRow.domain false) (Rows.flowReadsSpec.post enc Try.prog Try.f7 false true false false) := by
  refine returnsInHanded_of_change (C := Try.checked) own started (by kernel_rfl) Try.func7
    (ChangeSpec.witness6 (enc := enc) (C := Try.checked) false ⟨#[], #[.agg #[.int .i64 0, .int .i64 0, .int .i64 0, .int .i64 0, .int .i64 0], .int .u8 0], []⟩ 8 (by kernel_rfl) (by kernel_rfl) (by kernel_rfl) (by kernel_rfl)) ?_
  intro W base args ds gs before hval0 hW hcnd _
  have hval : ∀ (j : Nat) t v, Try.f7.params[j]? = some t → args[j]? = some v → Value.okWide Try.prog W .any base t v := hval0
  have hW' := hW
  obtain ⟨p, q, hA0, hV, rfl, hfz, hnd⟩ := hW
  have hA : DataW.TrodAll enc Try.prog W 0 (fun _ => true) true Try.f7.params.toList args.toList ds p := hA0
  rw [Try.params7] at hA hval
  obtain ⟨v0, vs0, d0, ds0, p0, q0, hargs, rfl, rfl, h0, r0⟩ := trodAll_cons hA
  obtain ⟨v1, vs1, d1, ds1, p1, q1, rfl, rfl, rfl, h1, r1⟩ := trodAll_cons r0
  obtain ⟨rfl, rfl, rfl⟩ := trodAll_nil r1
  obtain rfl : args = #[v0, v1] := by cases args; simp_all
  obtain ⟨rfl, rfl⟩ := trodVars_none hV
  have k0 := h0
  have lt0 : ∀ x ∈ p0, x.block < W.heap.size := by obtain ⟨m, hm⟩ := k0; exact DataW.trod_lt m _ _ _ hm
  obtain ⟨o0, a0, b0, c0, m0, rfl, w0⟩ := open_ins (hval 0 23 v0 rfl rfl) h0
  obtain ⟨a1, rfl, rfl, rfl, w1⟩ := open_int Try.underlying5 (hval 1 5 v1 rfl rfl) h1
  clear hA0 hval0
  refine (walk o0 a0 b0 c0 m0 w0 a1 w1 W).mono fun e W' ⟨he, bel⟩ => ?_
  subst he
  exact ⟨_, rfl, _, _, _, [], _, [], hW', trodAll_mk1 (shut_bool Try.underlying4 _), (trodAll_cons_mk (Below.trod laidOut (by kernel_rfl) (of_decide_eq_true (by kernel_rfl)) k0 bel lt0) (trodAll_cons_mk (shut_int Try.underlying5 w1) trodAll_mk0)), rfl, bel.frame _, fun h => by cases h⟩

theorem over : Rows.FlowReadsSaid :=
  OpenClaim.holds_of_wide 7 Try.f7 rfl rfl rfl rfl rfl rfl rfl ⟨rfl, rfl, rfl, rfl, rfl⟩ rfl rfl rfl rfl rfl (by kernel_rfl) Try.func7 (by kernel_rfl)
    (of_decide_eq_true (by kernel_rfl)) (by unfold Func.isWrapper; first | (rw [if_pos (by decide +kernel)]; kernel_rfl) | (rw [if_neg (by decide +kernel)]; exact ⟨rfl, rfl⟩))
    (fun os started H enc _ => lifted os started H enc)
end Go.Proofs.Ytccfgnnfibblkaa.flowReads

namespace Go.Proofs.Ytccfgnnfibblkaa
theorem FlowReads_holds : Rows.FlowReadsSaid := flowReads.over
#print axioms FlowReads_holds
end Go.Proofs.Ytccfgnnfibblkaa
