/- What code.read and code.Get return: one contract a function. -/
import Derived.Test.YtombfnnpdamlgaaDoorCode
namespace Go.Proofs.YtombfnnpdamlgaaDoor
open Go.ChangeShapes Go.WideShapes Go.ChangeAt Go.RowKit
set_option linter.unusedVariables false

/-- A word's fields where an operation has so many registers. -/
def fldA (x r : Int) : Int := if 0 < r then x / 1048576 % 16 else 0
def fldB (x r : Int) : Int := if 1 < r then x / 65536 % 16 else 0
def fldC (x r : Int) : Int := if 2 < r then x % 16 else 0

theorem register_20 (x : Int) (w : World) (x0 : 0 ≤ x) (x1 : x < 4294967296) :
    Calls Tryd.prog 56 #[.int .u32 x, .int .i64 20] w fun e w' => e = .returned (.int .i64 (x / 1048576 % 16)) ∧ w' = w := register_any x 20 w x0 x1 (by omega) (by omega)
theorem register_16 (x : Int) (w : World) (x0 : 0 ≤ x) (x1 : x < 4294967296) :
    Calls Tryd.prog 56 #[.int .u32 x, .int .i64 16] w fun e w' => e = .returned (.int .i64 (x / 65536 % 16)) ∧ w' = w := register_any x 16 w x0 x1 (by omega) (by omega)
theorem register_0 (x : Int) (w : World) (x0 : 0 ≤ x) (x1 : x < 4294967296) :
    Calls Tryd.prog 56 #[.int .u32 x, .int .i64 0] w fun e w' => e = .returned (.int .i64 (x % 16)) ∧ w' = w :=
  (register_any x 0 w x0 x1 (by omega) (by omega)).mono fun e w' ⟨he, hw⟩ => ⟨by rw [he]; exact ret_int (by simp), hw⟩

/-- Two new blocks, as a later world has them. -/
theorem two_new {w w1 : World} {c1 c2 : Array Value} {t1 t2 : TypeId} (hb : Below ((w.alloc (.cells c1 t1)).alloc (.cells c2 t2)).heap.size ((w.alloc (.cells c1 t1)).alloc (.cells c2 t2)) w1) :
    (∀ (i : Nat) v, c1[i]? = some v → w1.cell? ⟨w.heap.size, i, none⟩ = some v) ∧ (∀ (i : Nat) v, c2[i]? = some v → w1.cell? ⟨w.heap.size + 1, i, none⟩ = some v) ∧
    (∀ i : Nat, w1.frozen? ⟨w.heap.size, i, none⟩ = false) ∧ (∀ i : Nat, w1.frozen? ⟨w.heap.size + 1, i, none⟩ = false) ∧ w.heap.size + 1 < w1.heap.size := by
  have e : w.heap.size + 1 = (w.alloc (.cells c1 t1)).heap.size := by simp
  have b2 : Below (w.alloc (.cells c1 t1)).heap.size (w.alloc (.cells c1 t1)) ((w.alloc (.cells c1 t1)).alloc (.cells c2 t2)) := (Below.refl _ _).alloc (Nat.le_refl _) _
  refine ⟨fun i v h => ?_, fun i v h => ?_, fun i => ?_, fun i => ?_, ?_⟩
  · exact (hb.cell (p := ⟨w.heap.size, i, none⟩) (by simp; omega)).trans ((b2.cell (p := ⟨w.heap.size, i, none⟩) (by simp)).trans (by simp [go_sem, h]))
  · rw [e]; exact (hb.cell (p := ⟨(w.alloc (.cells c1 t1)).heap.size, i, none⟩) (by simp)).trans (by simp [go_sem, h])
  · exact (hb.frozen (p := ⟨w.heap.size, i, none⟩) (by simp; omega)).trans ((b2.frozen (p := ⟨w.heap.size, i, none⟩) (by simp)).trans (by simp [go_sem]))
  · rw [e]; exact (hb.frozen (p := ⟨(w.alloc (.cells c1 t1)).heap.size, i, none⟩) (by simp)).trans (by simp [go_sem])
  · have := hb.size; simp at this; omega
theorem five_set {w w1 : World} (h : Below w.heap.size w w1) (u0 u1 u2 u3 u4 : Value) (o : Obj) :
    Below w.heap.size w ((((((w1.setCell ⟨w.heap.size, 0, none⟩ u0).setCell ⟨w.heap.size, 1, none⟩ u1).setCell ⟨w.heap.size, 2, none⟩ u2).setCell ⟨w.heap.size, 3, none⟩ u3).setCell ⟨w.heap.size, 4, none⟩ u4).alloc o) := by
  have h5 := (((((h.setCell (p := ⟨w.heap.size, 0, none⟩) (Nat.le_refl _) u0).setCell (p := ⟨w.heap.size, 1, none⟩) (Nat.le_refl _) u1).setCell (p := ⟨w.heap.size, 2, none⟩) (Nat.le_refl _) u2).setCell (p := ⟨w.heap.size, 3, none⟩) (Nat.le_refl _) u3).setCell (p := ⟨w.heap.size, 4, none⟩) (Nat.le_refl _) u4)
  exact h5.alloc h5.size o
theorem regs_bd (k : Int) : regsOf k = 0 ∨ regsOf k = 1 ∨ regsOf k = 2 ∨ regsOf k = 3 := by unfold regsOf; repeat' split <;> omega

theorem read_any (k : Nat) (x : Int) (w : World) (hk : k < 26) (x0 : 0 ≤ x) (x1 : x < 4294967296) (hT : Tab w) :
    Calls Tryd.prog 49 #[.int .i64 k, .int .u32 x] w fun e w' => e = .returned (.agg #[.int .i64 k, .int .i64 (fldA x (regsOf k)), .int .i64 (fldB x (regsOf k)), .int .i64 (fldC x (regsOf k)), .int .i64 (immZ x (widthOf k) (signedOf k))]) ∧ Below w.heap.size w w' := by
  obtain ⟨t0, t1, t2⟩ := hT k hk
  have hz := hT.size
  have hr := regs_bd k
  have z : ∀ wx, Calls Tryd.prog 55 #[.int .u32 x, .agg #[.int .i64 (regsOf k), .int .i64 (widthOf k), .bool (signedOf k)]] wx fun e w' => e = .returned (.int .i64 (immZ x (widthOf k) (signedOf k))) ∧ Below wx.heap.size wx w' := fun wx => readImm_any x _ _ _ wx x0 x1
  generalize regsOf k = rg at *
  generalize immZ x (widthOf k) (signedOf k) = im at *
  generalize widthOf k = wd at *
  generalize signedOf k = sg at *
  have Z : Hid (∀ wx, Calls Tryd.prog 55 #[.int .u32 x, .agg #[.int .i64 rg, .int .i64 wd, .bool sg]] wx fun e w' => e = .returned (.int .i64 im) ∧ Below wx.heap.size wx w') := z
  clear z hT
  rcases hr with rfl | rfl | rfl | rfl
  · go_enter Tryd.func49, Tryd.ntmps49
    go_wp2_with fail
    refine (Z.out _).mono ?_
    rintro e w1 ⟨rfl, hb⟩
    obtain ⟨hc1, hc2, hf1, hf2, hs⟩ := two_new hb
    have z0 := hc1 0 (.int .i64 0) rfl
    have z1 := hc1 1 (.int .i64 0) rfl
    have z2 := hc1 2 (.int .i64 0) rfl
    have z3 := hc1 3 (.int .i64 0) rfl
    have z4 := hc1 4 (.int .i64 0) rfl
    have s0 := hc2 0 (.int .i64 0) rfl
    have s1 := hc2 1 (.int .i64 wd) rfl
    have s2 := hc2 2 (.bool sg) rfl
    have hs0 : w.heap.size < w1.heap.size := by omega
    clear hc1 hc2
    have hB : Hid (Below w.heap.size w w1) := (((Below.refl _ _).alloc (Nat.le_refl _) _).alloc (by simp) _).trans (hb.mono (by simp; omega))
    clear hb
    go_wp2_with (first
      | (go_at_call_of 56 (Value.int IntKind.i64 20); refine (register_20 x _ x0 x1).mono ?_; rintro e w' ⟨rfl, rfl⟩)
      | (go_at_call_of 56 (Value.int IntKind.i64 16); refine (register_16 x _ x0 x1).mono ?_; rintro e w' ⟨rfl, rfl⟩)
      | (go_at_call_of 56 (Value.int IntKind.i64 0); refine (register_0 x _ x0 x1).mono ?_; rintro e w' ⟨rfl, rfl⟩))
    have hBe : ∀ u0 u1 u2 u3 u4 o, Below w.heap.size w ((((((w1.setCell ⟨w.heap.size, 0, none⟩ u0).setCell ⟨w.heap.size, 1, none⟩ u1).setCell ⟨w.heap.size, 2, none⟩ u2).setCell ⟨w.heap.size, 3, none⟩ u3).setCell ⟨w.heap.size, 4, none⟩ u4).alloc o) := fun u0 u1 u2 u3 u4 o => five_set hB.out _ _ _ _ _ _
    refine bodyPost_ret (v := Value.agg #[.int .i64 k, .int .i64 (fldA x 0), .int .i64 (fldB x 0), .int .i64 (fldC x 0), .int .i64 im]) ?_ rfl ⟨rfl, hBe _ _ _ _ _ _⟩
    simp [results, Tryd.results49, go_sem, fldA, fldB, fldC, z0, z1, z2, z3, z4, hs0]
  · go_enter Tryd.func49, Tryd.ntmps49
    go_wp2_with fail
    refine (Z.out _).mono ?_
    rintro e w1 ⟨rfl, hb⟩
    obtain ⟨hc1, hc2, hf1, hf2, hs⟩ := two_new hb
    have z0 := hc1 0 (.int .i64 0) rfl
    have z1 := hc1 1 (.int .i64 0) rfl
    have z2 := hc1 2 (.int .i64 0) rfl
    have z3 := hc1 3 (.int .i64 0) rfl
    have z4 := hc1 4 (.int .i64 0) rfl
    have s0 := hc2 0 (.int .i64 1) rfl
    have s1 := hc2 1 (.int .i64 wd) rfl
    have s2 := hc2 2 (.bool sg) rfl
    have hs0 : w.heap.size < w1.heap.size := by omega
    clear hc1 hc2
    have hB : Hid (Below w.heap.size w w1) := (((Below.refl _ _).alloc (Nat.le_refl _) _).alloc (by simp) _).trans (hb.mono (by simp; omega))
    clear hb
    go_wp2_with (first
      | (go_at_call_of 56 (Value.int IntKind.i64 20); refine (register_20 x _ x0 x1).mono ?_; rintro e w' ⟨rfl, rfl⟩)
      | (go_at_call_of 56 (Value.int IntKind.i64 16); refine (register_16 x _ x0 x1).mono ?_; rintro e w' ⟨rfl, rfl⟩)
      | (go_at_call_of 56 (Value.int IntKind.i64 0); refine (register_0 x _ x0 x1).mono ?_; rintro e w' ⟨rfl, rfl⟩))
    have hBe : ∀ u0 u1 u2 u3 u4 o, Below w.heap.size w ((((((w1.setCell ⟨w.heap.size, 0, none⟩ u0).setCell ⟨w.heap.size, 1, none⟩ u1).setCell ⟨w.heap.size, 2, none⟩ u2).setCell ⟨w.heap.size, 3, none⟩ u3).setCell ⟨w.heap.size, 4, none⟩ u4).alloc o) := fun u0 u1 u2 u3 u4 o => five_set hB.out _ _ _ _ _ _
    refine bodyPost_ret (v := Value.agg #[.int .i64 k, .int .i64 (fldA x 1), .int .i64 (fldB x 1), .int .i64 (fldC x 1), .int .i64 im]) ?_ rfl ⟨rfl, hBe _ _ _ _ _ _⟩
    simp [results, Tryd.results49, go_sem, fldA, fldB, fldC, z0, z1, z2, z3, z4, hs0]
  · go_enter Tryd.func49, Tryd.ntmps49
    go_wp2_with fail
    refine (Z.out _).mono ?_
    rintro e w1 ⟨rfl, hb⟩
    obtain ⟨hc1, hc2, hf1, hf2, hs⟩ := two_new hb
    have z0 := hc1 0 (.int .i64 0) rfl
    have z1 := hc1 1 (.int .i64 0) rfl
    have z2 := hc1 2 (.int .i64 0) rfl
    have z3 := hc1 3 (.int .i64 0) rfl
    have z4 := hc1 4 (.int .i64 0) rfl
    have s0 := hc2 0 (.int .i64 2) rfl
    have s1 := hc2 1 (.int .i64 wd) rfl
    have s2 := hc2 2 (.bool sg) rfl
    have hs0 : w.heap.size < w1.heap.size := by omega
    clear hc1 hc2
    have hB : Hid (Below w.heap.size w w1) := (((Below.refl _ _).alloc (Nat.le_refl _) _).alloc (by simp) _).trans (hb.mono (by simp; omega))
    clear hb
    go_wp2_with (first
      | (go_at_call_of 56 (Value.int IntKind.i64 20); refine (register_20 x _ x0 x1).mono ?_; rintro e w' ⟨rfl, rfl⟩)
      | (go_at_call_of 56 (Value.int IntKind.i64 16); refine (register_16 x _ x0 x1).mono ?_; rintro e w' ⟨rfl, rfl⟩)
      | (go_at_call_of 56 (Value.int IntKind.i64 0); refine (register_0 x _ x0 x1).mono ?_; rintro e w' ⟨rfl, rfl⟩))
    have hBe : ∀ u0 u1 u2 u3 u4 o, Below w.heap.size w ((((((w1.setCell ⟨w.heap.size, 0, none⟩ u0).setCell ⟨w.heap.size, 1, none⟩ u1).setCell ⟨w.heap.size, 2, none⟩ u2).setCell ⟨w.heap.size, 3, none⟩ u3).setCell ⟨w.heap.size, 4, none⟩ u4).alloc o) := fun u0 u1 u2 u3 u4 o => five_set hB.out _ _ _ _ _ _
    refine bodyPost_ret (v := Value.agg #[.int .i64 k, .int .i64 (fldA x 2), .int .i64 (fldB x 2), .int .i64 (fldC x 2), .int .i64 im]) ?_ rfl ⟨rfl, hBe _ _ _ _ _ _⟩
    simp [results, Tryd.results49, go_sem, fldA, fldB, fldC, z0, z1, z2, z3, z4, hs0]
  · go_enter Tryd.func49, Tryd.ntmps49
    go_wp2_with fail
    refine (Z.out _).mono ?_
    rintro e w1 ⟨rfl, hb⟩
    obtain ⟨hc1, hc2, hf1, hf2, hs⟩ := two_new hb
    have z0 := hc1 0 (.int .i64 0) rfl
    have z1 := hc1 1 (.int .i64 0) rfl
    have z2 := hc1 2 (.int .i64 0) rfl
    have z3 := hc1 3 (.int .i64 0) rfl
    have z4 := hc1 4 (.int .i64 0) rfl
    have s0 := hc2 0 (.int .i64 3) rfl
    have s1 := hc2 1 (.int .i64 wd) rfl
    have s2 := hc2 2 (.bool sg) rfl
    have hs0 : w.heap.size < w1.heap.size := by omega
    clear hc1 hc2
    have hB : Hid (Below w.heap.size w w1) := (((Below.refl _ _).alloc (Nat.le_refl _) _).alloc (by simp) _).trans (hb.mono (by simp; omega))
    clear hb
    go_wp2_with (first
      | (go_at_call_of 56 (Value.int IntKind.i64 20); refine (register_20 x _ x0 x1).mono ?_; rintro e w' ⟨rfl, rfl⟩)
      | (go_at_call_of 56 (Value.int IntKind.i64 16); refine (register_16 x _ x0 x1).mono ?_; rintro e w' ⟨rfl, rfl⟩)
      | (go_at_call_of 56 (Value.int IntKind.i64 0); refine (register_0 x _ x0 x1).mono ?_; rintro e w' ⟨rfl, rfl⟩))
    have hBe : ∀ u0 u1 u2 u3 u4 o, Below w.heap.size w ((((((w1.setCell ⟨w.heap.size, 0, none⟩ u0).setCell ⟨w.heap.size, 1, none⟩ u1).setCell ⟨w.heap.size, 2, none⟩ u2).setCell ⟨w.heap.size, 3, none⟩ u3).setCell ⟨w.heap.size, 4, none⟩ u4).alloc o) := fun u0 u1 u2 u3 u4 o => five_set hB.out _ _ _ _ _ _
    refine bodyPost_ret (v := Value.agg #[.int .i64 k, .int .i64 (fldA x 3), .int .i64 (fldB x 3), .int .i64 (fldC x 3), .int .i64 im]) ?_ rfl ⟨rfl, hBe _ _ _ _ _ _⟩
    simp [results, Tryd.results49, go_sem, fldA, fldB, fldC, z0, z1, z2, z3, z4, hs0]

/-- The fields of a word's instruction. -/
def gO (x : Int) : Int := x / 16777216
def gA (x : Int) : Int := fldA x (regsOf (gO x))
def gB (x : Int) : Int := fldB x (regsOf (gO x))
def gC (x : Int) : Int := fldC x (regsOf (gO x))
def gI (x : Int) : Int := immZ x (widthOf (gO x)) (signedOf (gO x))
/-- Is the word that of an instruction? -/
def okG (x : Int) : Bool := rightB (gO x) (gA x) (gB x) (gC x) (gI x) && putZ (gO x) (gA x) (gB x) (gC x) (gI x) == x
def insV (op a b c imm : Int) : Array Value := #[.int .i64 op, .int .i64 a, .int .i64 b, .int .i64 c, .int .i64 imm]

theorem get_over (x : Int) (w : World) (x0 : 0 ≤ x) (x1 : x < 4294967296) (h : 26 ≤ x / 16777216) :
    Calls Tryd.prog 42 #[.int .u32 x] w fun e w' => e = .returned (.tuple #[.agg (insV 0 0 0 0 0), .int .i64 3]) ∧ Below w.heap.size w w' := by
  go_enter Tryd.func42, Tryd.ntmps42
  go_wp2
  refine bodyPost_ret (v := Value.tuple #[.agg (insV 0 0 0 0 0), .int .i64 3]) ?_ rfl ⟨rfl, (Below.refl _ _).alloc (Nat.le_refl _) _⟩
  simp [results, Tryd.results42, go_sem, insV]
/-- A new block, calls, a second new block, calls: what stands there then. -/
theorem get_cells {w w1 w2 : World} {c1 c2 : Array Value} {t1 t2 : TypeId} (hb1 : Below (w.alloc (.cells c1 t1)).heap.size (w.alloc (.cells c1 t1)) w1) (hb2 : Below (w1.alloc (.cells c2 t2)).heap.size (w1.alloc (.cells c2 t2)) w2) :
    (∀ (i : Nat) v, c1[i]? = some v → w2.cell? ⟨w.heap.size, i, none⟩ = some v) ∧ (∀ (i : Nat) v, c2[i]? = some v → w2.cell? ⟨w1.heap.size, i, none⟩ = some v) ∧
    (∀ i : Nat, w2.frozen? ⟨w.heap.size, i, none⟩ = false) ∧ w.heap.size < w1.heap.size ∧ w1.heap.size < w2.heap.size ∧ Below w.heap.size w w2 := by
  have s1 : w.heap.size < w1.heap.size := by have := hb1.size; simp at this; omega
  have s2 : w1.heap.size < w2.heap.size := by have := hb2.size; simp at this; omega
  have b2 : Below w1.heap.size w1 w2 := ((Below.refl _ _).alloc (Nat.le_refl _) _).trans (hb2.mono (by simp))
  refine ⟨fun i v h => ?_, fun i v h => ?_, fun i => ?_, s1, s2, ?_⟩
  · exact (b2.cell (p := ⟨w.heap.size, i, none⟩) s1).trans ((hb1.cell (p := ⟨w.heap.size, i, none⟩) (by simp)).trans (by simp [go_sem, h]))
  · exact (hb2.cell (p := ⟨w1.heap.size, i, none⟩) (by simp)).trans (by simp [go_sem, h])
  · exact (b2.frozen (p := ⟨w.heap.size, i, none⟩) s1).trans ((hb1.frozen (p := ⟨w.heap.size, i, none⟩) (by simp)).trans (by simp [go_sem]))
  · exact (((Below.refl _ _).alloc (Nat.le_refl _) _).trans (hb1.mono (by simp))).trans (b2.mono (by omega))
theorem five_set' {w w1 : World} (h : Below w.heap.size w w1) (u0 u1 u2 u3 u4 : Value) :
    Below w.heap.size w (((((w1.setCell ⟨w.heap.size, 0, none⟩ u0).setCell ⟨w.heap.size, 1, none⟩ u1).setCell ⟨w.heap.size, 2, none⟩ u2).setCell ⟨w.heap.size, 3, none⟩ u3).setCell ⟨w.heap.size, 4, none⟩ u4) :=
  (((((h.setCell (p := ⟨w.heap.size, 0, none⟩) (Nat.le_refl _) u0).setCell (p := ⟨w.heap.size, 1, none⟩) (Nat.le_refl _) u1).setCell (p := ⟨w.heap.size, 2, none⟩) (Nat.le_refl _) u2).setCell (p := ⟨w.heap.size, 3, none⟩) (Nat.le_refl _) u3).setCell (p := ⟨w.heap.size, 4, none⟩) (Nat.le_refl _) u4)

theorem get_core (x A B C I : Int) (w : World) (x0 : 0 ≤ x) (x1 : x < 4294967296) (h : x / 16777216 < 26) (hT : Tab w)
    (hR : ∀ wx, Tab wx → Calls Tryd.prog 49 #[.int .i64 (x / 16777216), .int .u32 x] wx fun e w' => e = .returned (.agg #[.int .i64 (x / 16777216), .int .i64 A, .int .i64 B, .int .i64 C, .int .i64 I]) ∧ Below wx.heap.size wx w') :
    Calls Tryd.prog 42 #[.int .u32 x] w fun e w' => e = .returned (if (rightB (x / 16777216) A B C I && putZ (x / 16777216) A B C I == x) = true then .tuple #[.agg (insV (x / 16777216) A B C I), .int .i64 0] else .tuple #[.agg (insV 0 0 0 0 0), .int .i64 3]) ∧ Below w.heap.size w w' := by
  have HR : Hid (∀ wx, Tab wx → Calls Tryd.prog 49 #[.int .i64 (x / 16777216), .int .u32 x] wx fun e w' => e = .returned (.agg #[.int .i64 (x / 16777216), .int .i64 A, .int .i64 B, .int .i64 C, .int .i64 I]) ∧ Below wx.heap.size wx w') := hR
  have HT : Hid (Tab w) := hT
  clear hR hT
  by_cases hr : rightB (x / 16777216) A B C I = true
  · by_cases hq : putZ (x / 16777216) A B C I = x
    · have hc : (rightB (x / 16777216) A B C I && putZ (x / 16777216) A B C I == x) = true := by simp [hr, hq]
      rw [if_pos hc]
      clear hc
      go_enter Tryd.func42, Tryd.ntmps42
      go_wp2_with fail
      refine (HR.out _ (HT.out.later ((Below.refl _ _).alloc (Nat.le_refl _) _))).mono ?_
      rintro e w1 ⟨rfl, hb1⟩
      have HB1 : Hid _ := hb1
      have hT1 : Tab w1 := HT.out.later (((Below.refl _ _).alloc (Nat.le_refl _) _).trans (hb1.mono (by simp)))
      have HT1 : Hid (Tab (w1.alloc (.cells #[.int .i64 (x / 16777216), .int .i64 A, .int .i64 B, .int .i64 C, .int .i64 I] 49))) := hT1.later ((Below.refl _ _).alloc (Nat.le_refl _) _)
      clear hT1 hb1
      go_wp2_with fail
      refine (put_yes _ _ _ _ _ _ HT1.out hr).mono ?_
      rintro e w2 ⟨rfl, hb2⟩
      obtain ⟨hc1, hc2, hf, hs1, hs2, hB⟩ := get_cells HB1.out hb2
      have z0 := hc1 0 (.int .i64 0) rfl
      have z1 := hc1 1 (.int .i64 0) rfl
      have z2 := hc1 2 (.int .i64 0) rfl
      have z3 := hc1 3 (.int .i64 0) rfl
      have z4 := hc1 4 (.int .i64 0) rfl
      have y0 := hc2 0 (.int .i64 (x / 16777216)) rfl
      have y1 := hc2 1 (.int .i64 A) rfl
      have y2 := hc2 2 (.int .i64 B) rfl
      have y3 := hc2 3 (.int .i64 C) rfl
      have y4 := hc2 4 (.int .i64 I) rfl
      have HBB : Hid (Below w.heap.size w w2) := hB
      clear hc1 hc2 hb2 hB
      have hqq : (putZ (x / 16777216) A B C I != x) = false := by simp [hq]
      clear hr hq
      generalize putZ (x / 16777216) A B C I = pz at *
      go_wp2
      refine bodyPost_ret (v := Value.tuple #[.agg (insV (x / 16777216) A B C I), .int .i64 0]) ?_ rfl ⟨rfl, five_set' HBB.out _ _ _ _ _⟩
      simp [results, Tryd.results42, go_sem, insV, z0, z1, z2, z3, z4]
    · have hc : ¬ (rightB (x / 16777216) A B C I && putZ (x / 16777216) A B C I == x) = true := by simp [hr, hq]
      rw [if_neg hc]
      clear hc
      go_enter Tryd.func42, Tryd.ntmps42
      go_wp2_with fail
      refine (HR.out _ (HT.out.later ((Below.refl _ _).alloc (Nat.le_refl _) _))).mono ?_
      rintro e w1 ⟨rfl, hb1⟩
      have HB1 : Hid _ := hb1
      have hT1 : Tab w1 := HT.out.later (((Below.refl _ _).alloc (Nat.le_refl _) _).trans (hb1.mono (by simp)))
      have HT1 : Hid (Tab (w1.alloc (.cells #[.int .i64 (x / 16777216), .int .i64 A, .int .i64 B, .int .i64 C, .int .i64 I] 49))) := hT1.later ((Below.refl _ _).alloc (Nat.le_refl _) _)
      clear hT1 hb1
      go_wp2_with fail
      refine (put_yes _ _ _ _ _ _ HT1.out hr).mono ?_
      rintro e w2 ⟨rfl, hb2⟩
      obtain ⟨hc1, hc2, hf, hs1, hs2, hB⟩ := get_cells HB1.out hb2
      have z0 := hc1 0 (.int .i64 0) rfl
      have z1 := hc1 1 (.int .i64 0) rfl
      have z2 := hc1 2 (.int .i64 0) rfl
      have z3 := hc1 3 (.int .i64 0) rfl
      have z4 := hc1 4 (.int .i64 0) rfl
      have y0 := hc2 0 (.int .i64 (x / 16777216)) rfl
      have y1 := hc2 1 (.int .i64 A) rfl
      have y2 := hc2 2 (.int .i64 B) rfl
      have y3 := hc2 3 (.int .i64 C) rfl
      have y4 := hc2 4 (.int .i64 I) rfl
      have HBB : Hid (Below w.heap.size w w2) := hB
      clear hc1 hc2 hb2 hB
      have hqq : (putZ (x / 16777216) A B C I != x) = true := by simp [hq]
      clear hr hq
      generalize putZ (x / 16777216) A B C I = pz at *
      go_wp2
      refine bodyPost_ret (v := Value.tuple #[.agg (insV 0 0 0 0 0), .int .i64 3]) ?_ rfl ⟨rfl, five_set' HBB.out _ _ _ _ _⟩
      simp [results, Tryd.results42, go_sem, insV, z0, z1, z2, z3, z4]
  · have hc : ¬ (rightB (x / 16777216) A B C I && putZ (x / 16777216) A B C I == x) = true := by simp [hr]
    rw [if_neg hc]
    rw [Bool.not_eq_true] at hr
    clear hc
    go_enter Tryd.func42, Tryd.ntmps42
    go_wp2_with fail
    refine (HR.out _ (HT.out.later ((Below.refl _ _).alloc (Nat.le_refl _) _))).mono ?_
    rintro e w1 ⟨rfl, hb1⟩
    have HB1 : Hid _ := hb1
    have hT1 : Tab w1 := HT.out.later (((Below.refl _ _).alloc (Nat.le_refl _) _).trans (hb1.mono (by simp)))
    have HT1 : Hid (Tab (w1.alloc (.cells #[.int .i64 (x / 16777216), .int .i64 A, .int .i64 B, .int .i64 C, .int .i64 I] 49))) := hT1.later ((Below.refl _ _).alloc (Nat.le_refl _) _)
    clear hT1 hb1
    go_wp2_with fail
    refine (put_not _ _ _ _ _ _ HT1.out hr).mono ?_
    rintro e w2 ⟨rfl, hb2⟩
    obtain ⟨hc1, hc2, hf, hs1, hs2, hB⟩ := get_cells HB1.out hb2
    have z0 := hc1 0 (.int .i64 0) rfl
    have z1 := hc1 1 (.int .i64 0) rfl
    have z2 := hc1 2 (.int .i64 0) rfl
    have z3 := hc1 3 (.int .i64 0) rfl
    have z4 := hc1 4 (.int .i64 0) rfl
    have y0 := hc2 0 (.int .i64 (x / 16777216)) rfl
    have y1 := hc2 1 (.int .i64 A) rfl
    have y2 := hc2 2 (.int .i64 B) rfl
    have y3 := hc2 3 (.int .i64 C) rfl
    have y4 := hc2 4 (.int .i64 I) rfl
    have HBB : Hid (Below w.heap.size w w2) := hB
    clear hc1 hc2 hb2 hB
    clear hr
    go_wp2
    refine bodyPost_ret (v := Value.tuple #[.agg (insV 0 0 0 0 0), .int .i64 3]) ?_ rfl ⟨rfl, five_set' HBB.out _ _ _ _ _⟩
    simp [results, Tryd.results42, go_sem, insV, z0, z1, z2, z3, z4]

/-- code.Get, whatever the word. -/
theorem get_all (x : Int) (w : World) (x0 : 0 ≤ x) (x1 : x < 4294967296) (hT : Tab w) :
    Calls Tryd.prog 42 #[.int .u32 x] w fun e w' => e = .returned (if okG x = true then .tuple #[.agg (insV (gO x) (gA x) (gB x) (gC x) (gI x)), .int .i64 0] else .tuple #[.agg (insV 0 0 0 0 0), .int .i64 3]) ∧ Below w.heap.size w w' := by
  by_cases h : x / 16777216 < 26
  · obtain ⟨k, hk⟩ : ∃ k : Nat, x / 16777216 = k := Int.eq_ofNat_of_zero_le (by omega)
    have hR : ∀ wx, Tab wx → Calls Tryd.prog 49 #[.int .i64 (x / 16777216), .int .u32 x] wx fun e w' => e = .returned (.agg #[.int .i64 (x / 16777216), .int .i64 (gA x), .int .i64 (gB x), .int .i64 (gC x), .int .i64 (gI x)]) ∧ Below wx.heap.size wx w' := by
      intro wx hx
      have := read_any k x wx (by omega) x0 x1 hx
      unfold gA gB gC gI gO; rw [hk]; exact this
    exact get_core x (gA x) (gB x) (gC x) (gI x) w x0 x1 h hT hR
  · have e : okG x = false := by
      unfold okG; rw [right_out _ _ _ _ _ (Or.inr (by unfold gO; omega))]; rfl
    rw [e, if_neg (by decide)]
    exact get_over x w x0 x1 (by omega)
end Go.Proofs.YtombfnnpdamlgaaDoor
