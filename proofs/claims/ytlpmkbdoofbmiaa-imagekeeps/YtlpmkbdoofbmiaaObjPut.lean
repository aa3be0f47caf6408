/- What the document's own functions write of numbers and names. -/
import Derived.Test.YtlpmkbdoofbmiaaObjRd
import Derived.Test.YtlpmkbdoofbmiaaObjOwn
import Derived.Lib.ConvBytes
namespace Go.Proofs.Ytlpmkbdoofbmiaa
open Go.ChangeShapes Go.WideShapes Go.ChangeAt Go.RowKit
set_option linter.unusedVariables false
set_option linter.unusedSimpArgs false
theorem digL_get (n : Nat) : ∀ (x : Int) (i : Nat), i < n → gF (digL n x) i = x / 256 ^ i % 256 := by
  induction n with
  | zero => intro x i h; omega
  | succ n ih =>
    intro x i h
    rcases i with _ | i
    · show x % 256 = x / 256 ^ 0 % 256
      rw [Int.pow_zero, Int.ediv_one]
    · have h1 : gF (digL (n + 1) x) (i + 1) = gF (digL n (x / 256)) i := rfl
      rw [h1, ih (x / 256) i (by omega), Int.pow_succ, Int.mul_comm, ← Int.ediv_ediv_of_nonneg (by decide)]
theorem bytes_dig {w : World} {a : Option Addr} {n k : Nat} {x : Int} (h : ∀ i, i < k → ∃ b off, a = some ⟨b, off, none⟩ ∧ w.cell? ⟨b, off + i, none⟩ = some (.int .u8 (x / 256 ^ i % 256))) (hk : k ≠ 0) : Bytes w a k (gF (digL k x)) := by
  obtain ⟨b, off, e, _⟩ := h 0 (by omega)
  refine ⟨gF_byt (digL_byt k x), .inr ⟨b, off, e, fun i hi => ?_⟩⟩
  obtain ⟨b', off', e', hc⟩ := h i hi
  rw [e] at e'
  cases e'
  rw [digL_get k x i hi]; exact hc
/-- The first ones of a row, the row's beginning. -/
theorem slice_first9 (W : World) (a : Option Addr) (n c k : Nat) (hk : k ≤ n) (hc : n ≤ c) : (Instr.slice 23 (.slice a n c) none (some (.int .i64 (k : Int))) none).run Try.prog W = .ok (.slice a k c) W := by
  rw [run_slice_h W 23 a n c (by kernel_rfl) .i64 (k : Int) (by omega) (by omega)]
  have hs : (sizeOf (Try.prog.elem 23)).run Try.prog W = .ok 1 W := by go_simp
  rw [hs]
  simp only [Result.andThen_ok, sliced, Int.toNat_natCast]
  simp
  intro _
  cases a with
  | none => rfl
  | some y => simp [Addr.add]
end Go.Proofs.Ytlpmkbdoofbmiaa
