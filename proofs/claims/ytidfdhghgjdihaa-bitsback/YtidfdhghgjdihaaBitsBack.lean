/- For every word w, number x and number n BitsBack returns true: what is put is got as it was, a number that fits is cut and read as it was, what is read of so many bits fits them. No condition. -/
import Derived.Test.YtidfdhghgjdihaaAwake
import Derived.WalkKit
import Derived.ProofKit
import Derived.OpenShut
import Derived.ShutString
import Derived.ChangeOld
import Derived.Below
namespace Go.Proofs.Ytidfdhghgjdihaa.bitsBack
open Go.ChangeShapes Go.WideShapes Go.ChangeAt Go.RowKit
open Go.ChangeMaps (open_string shut_string)
set_option linter.unusedVariables false

theorem own : ownKnob Try.prog.godebug = none := by kernel_rfl
theorem laidOut : laidOutB Try.prog = true := by kernel_rfl

theorem wf_i64_bd {x : Int} (h : (Lit.int .i64 x).wf = true) : -9223372036854775808 ≤ x ∧ x ≤ 9223372036854775807 := by
  simp [Lit.wf, IntKind.min, IntKind.max, IntKind.signed, IntKind.bits] at h; omega
theorem wf_u32_bd {x : Int} (h : (Lit.int .u32 x).wf = true) : 0 ≤ x ∧ x < 4294967296 := by
  simp [Lit.wf, IntKind.min, IntKind.max, IntKind.signed, IntKind.bits] at h; omega
theorem wf_u8_bd {x : Int} (h : (Lit.int .u8 x).wf = true) : 0 ≤ x ∧ x < 256 := by
  simp [Lit.wf, IntKind.min, IntKind.max, IntKind.signed, IntKind.bits] at h; omega

/-- What is put is got as it was: the word of the four bytes. -/
theorem word_bytes (x : Int) (x0 : 0 ≤ x) (x1 : x < 4294967296) : x % 256 + 256 * (x / 256 % 256) + 65536 * (x / 65536 % 256) + 16777216 * (x / 16777216) = x := by omega

/-- A cell of the second of two new blocks. -/
theorem world_cell (w : World) (o : Obj) (cs : Array Value) (i : Nat) (v : Value) (h : cs[i]? = some v) :
    ((w.alloc o).alloc (.cells cs 25)).cell? ⟨w.heap.size + 1, i, none⟩ = some v := by
  have e : w.heap.size + 1 = (w.alloc o).heap.size := by simp
  rw [e]
  simp [go_sem, h]

theorem walk (a0 : Int) (a1 : Int) (a2 : Int) (w0 : (Lit.int .u32 a0).wf = true) (w1 : (Lit.int .i64 a1).wf = true) (w2 : (Lit.int .u8 a2).wf = true) (w : World) :
    Calls Try.prog 6 #[.int .u32 a0, .int .i64 a1, .int .u8 a2] w fun e w' => e = .returned (.bool true) ∧ Below w.heap.size w w' := by
  obtain ⟨b0, b1⟩ := wf_i64_bd w1
  obtain ⟨c0, c1⟩ := wf_u32_bd w0
  obtain ⟨n0, n1⟩ := wf_u8_bd w2
  have k0 : 0 ≤ a2 % 32 := by omega
  have k1 : a2 % 32 < 32 := by omega
  have hfs := fits_sign a0 (1 + a2 % 32) (by omega) (by omega)
  have hw : Hid (_ = _) := word_bytes a0 c0 c1
  have d0 : 0 ≤ a0 % 256 ∧ a0 % 256 < 256 := by omega
  have d1 : 0 ≤ a0 / 256 % 256 ∧ a0 / 256 % 256 < 256 := by omega
  have d2 : 0 ≤ a0 / 65536 % 256 ∧ a0 / 65536 % 256 < 256 := by omega
  have d3 : 0 ≤ a0 / 16777216 ∧ a0 / 16777216 < 256 := by omega
  obtain ⟨s0, s1⟩ := sign_bd a0 (1 + a2 % 32)
  obtain ⟨u0, u1⟩ := cut_bd a1 (1 + a2 % 32)
  clear w0 w1 w2
  by_cases hf : fitsB a1 (1 + a2 % 32) = true
  · have hsc := sign_cut a1 (1 + a2 % 32) hf
    go_enter Try.func6, Try.ntmps6
    go_wp2_with (first | (go_at_call 9; refine (put_any a0 _ c0 c1).mono ?_; rintro e w' ⟨rfl, rfl⟩; simp only [bytesOf]) | (go_at_call 18; refine (sign_any a0 _ _ c0 c1).mono ?_; rintro e w' ⟨rfl, rfl⟩))
    refine (awake_any _).mono ?_
    rintro e w1 ⟨rfl, hb⟩
    have g0 := (hb.cell (p := ⟨w.heap.size + 1, 0, none⟩) (by simp)).trans (world_cell w _ _ 0 _ rfl)
    have g1 := (hb.cell (p := ⟨w.heap.size + 1, 1, none⟩) (by simp)).trans (world_cell w _ _ 1 _ rfl)
    have g2 := (hb.cell (p := ⟨w.heap.size + 1, 2, none⟩) (by simp)).trans (world_cell w _ _ 2 _ rfl)
    have g3 := (hb.cell (p := ⟨w.heap.size + 1, 3, none⟩) (by simp)).trans (world_cell w _ _ 3 _ rfl)
    have hB : Below w.heap.size w w1 := (((Below.refl _ _).alloc (Nat.le_refl _) _).alloc (by simp) _).trans (hb.mono (by simp; omega))
    clear hb
    go_wp2_with (first
      | (go_at_call 12; refine (get_four _ _ _ _ _ _ a0 g0 g1 g2 g3 d0 d1 d2 d3 hw.out).mono ?_; rintro e w' ⟨rfl, hb2⟩)
      | (go_at_call 14; refine (fits_any _ _ _).mono ?_; rintro e w' ⟨rfl, rfl⟩)
      | (go_at_call 16; refine (cut_any _ _ _).mono ?_; rintro e w' ⟨rfl, rfl⟩)
      | (go_at_call 18; refine (sign_any _ _ _ u0 u1).mono ?_; rintro e w' ⟨rfl, rfl⟩))
    go_ret
    exact ⟨rfl, hB.trans (hb2.mono hB.size)⟩
  · rw [Bool.not_eq_true] at hf
    go_enter Try.func6, Try.ntmps6
    go_wp2_with (first | (go_at_call 9; refine (put_any a0 _ c0 c1).mono ?_; rintro e w' ⟨rfl, rfl⟩; simp only [bytesOf]) | (go_at_call 18; refine (sign_any a0 _ _ c0 c1).mono ?_; rintro e w' ⟨rfl, rfl⟩))
    refine (awake_any _).mono ?_
    rintro e w1 ⟨rfl, hb⟩
    have g0 := (hb.cell (p := ⟨w.heap.size + 1, 0, none⟩) (by simp)).trans (world_cell w _ _ 0 _ rfl)
    have g1 := (hb.cell (p := ⟨w.heap.size + 1, 1, none⟩) (by simp)).trans (world_cell w _ _ 1 _ rfl)
    have g2 := (hb.cell (p := ⟨w.heap.size + 1, 2, none⟩) (by simp)).trans (world_cell w _ _ 2 _ rfl)
    have g3 := (hb.cell (p := ⟨w.heap.size + 1, 3, none⟩) (by simp)).trans (world_cell w _ _ 3 _ rfl)
    have hB : Below w.heap.size w w1 := (((Below.refl _ _).alloc (Nat.le_refl _) _).alloc (by simp) _).trans (hb.mono (by simp; omega))
    clear hb
    go_wp2_with (first
      | (go_at_call 12; refine (get_four _ _ _ _ _ _ a0 g0 g1 g2 g3 d0 d1 d2 d3 hw.out).mono ?_; rintro e w' ⟨rfl, hb2⟩)
      | (go_at_call 14; refine (fits_any _ _ _).mono ?_; rintro e w' ⟨rfl, rfl⟩)
      | (go_at_call 16; refine (cut_any _ _ _).mono ?_; rintro e w' ⟨rfl, rfl⟩)
      | (go_at_call 18; refine (sign_any _ _ _ u0 u1).mono ?_; rintro e w' ⟨rfl, rfl⟩))
    go_ret
    exact ⟨rfl, hB.trans (hb2.mono hB.size)⟩

/-! ### The row's step -/
set_option maxRecDepth 100000 in
theorem lifted (os : Os) (started : os.Started) (H : Type) (enc : TypeId × Value → H) :
    ReturnsInHanded {} Try.checked os 6 .any (Rows.bitsBackSpec.pre6 enc Try.prog Try.f6 Rows.bitsBackRow.domain false) (Rows.bitsBackSpec.post enc Try.prog Try.f6 false true false false) := by
  refine returnsInHanded_of_change (C := Try.checked) own started (by kernel_rfl) Try.func6
    (ChangeSpec.witness6 (enc := enc) (C := Try.checked) false ⟨#[], #[.int .u32 0, .int .i64 0, .int .u8 0], []⟩ 8 (by kernel_rfl) (by kernel_rfl) (by kernel_rfl) (by kernel_rfl)) ?_
  intro W base args ds gs before hval0 hW hcnd _
  have hval : ∀ (j : Nat) t v, Try.f6.params[j]? = some t → args[j]? = some v → Value.okWide Try.prog W .any base t v := hval0
  have hW' := hW
  obtain ⟨p, q, hA0, hV, rfl, hfz, hnd⟩ := hW
  have hA : DataW.TrodAll enc Try.prog W 0 (fun _ => true) true Try.f6.params.toList args.toList ds p := hA0
  rw [Try.params6] at hA hval
  obtain ⟨v0, vs0, d0, ds0, p0, q0, hargs, rfl, rfl, h0, r0⟩ := trodAll_cons hA
  obtain ⟨v1, vs1, d1, ds1, p1, q1, rfl, rfl, rfl, h1, r1⟩ := trodAll_cons r0
  obtain ⟨v2, vs2, d2, ds2, p2, q2, rfl, rfl, rfl, h2, r2⟩ := trodAll_cons r1
  obtain ⟨rfl, rfl, rfl⟩ := trodAll_nil r2
  obtain rfl : args = #[v0, v1, v2] := by cases args; simp_all
  obtain ⟨rfl, rfl⟩ := trodVars_none hV
  obtain ⟨a0, rfl, rfl, rfl, w0⟩ := open_int Try.underlying22 (hval 0 22 v0 rfl rfl) h0
  obtain ⟨a1, rfl, rfl, rfl, w1⟩ := open_int Try.underlying3 (hval 1 3 v1 rfl rfl) h1
  obtain ⟨a2, rfl, rfl, rfl, w2⟩ := open_int Try.underlying5 (hval 2 5 v2 rfl rfl) h2
  clear hA0 hval0
  refine (walk a0 a1 a2 w0 w1 w2 W).mono fun e W' ⟨he, bel⟩ => ?_
  subst he
  exact ⟨_, rfl, _, _, _, [], _, [], hW', trodAll_mk1 (shut_bool Try.underlying4 _), (trodAll_cons_mk (shut_int Try.underlying22 w0) (trodAll_cons_mk (shut_int Try.underlying3 w1) (trodAll_cons_mk (shut_int Try.underlying5 w2) trodAll_mk0))), rfl, bel.frame _, fun h => by cases h⟩

theorem over : Rows.bitsBackRow.holds Try.pinned (OpenSpec.ofChange Rows.bitsBackSpec) :=
  OpenClaim.holds_of_wide 6 Try.f6 rfl rfl rfl rfl rfl rfl rfl ⟨rfl, rfl, rfl, rfl, rfl⟩ rfl rfl rfl rfl rfl (by kernel_rfl) Try.func6 (by kernel_rfl)
    (of_decide_eq_true (by kernel_rfl)) (by unfold Func.isWrapper; first | (rw [if_pos (by decide +kernel)]; kernel_rfl) | (rw [if_neg (by decide +kernel)]; exact ⟨rfl, rfl⟩))
    (fun os started H enc _ => lifted os started H enc)

/-- The statement. -/
theorem proved_BitsBack : Rows.BitsBackSaid :=
  over
end Go.Proofs.Ytidfdhghgjdihaa.bitsBack

namespace Go.Proofs.Ytidfdhghgjdihaa
theorem BitsBack_holds : Rows.BitsBackSaid := bitsBack.proved_BitsBack
#print axioms BitsBack_holds
end Go.Proofs.Ytidfdhghgjdihaa
