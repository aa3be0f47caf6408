/- The same contracts, told of where a scanner's own blocks begin. -/
import Derived.Test.YtgnokbmhbeeblaaScan
namespace Go.Proofs.Ytgnokbmhbeeblaa
open Go.ChangeShapes Go.WideShapes Go.ChangeAt Go.RowKit
set_option linter.unusedVariables false
theorem left_sc {B : Nat} {w : World} {v : Value} {n : Nat} {f : Nat → Int} (h : Sc B w v n f) :
    Calls Try.prog 28 #[v] w fun e w' => e = .returned (.int .i64 n) ∧ Below w.heap.size w w' := by
  obtain ⟨O, _, h⟩ := h; exact left_so h
theorem must_sc {B : Nat} {w : World} {v : Value} {n : Nat} {f : Nat → Int} (h : Sc B w v n f) (b : Bool) :
    Calls Try.prog 29 #[v, .bool b] w fun e w' => (b = true ∧ e = .returned (.tuple #[]) ∨ b = false ∧ e = failE 4) ∧ Below w.heap.size w w' := by
  obtain ⟨O, _, h⟩ := h; exact must_so h b
theorem number_sc {B : Nat} {w : World} {v : Value} {n : Nat} {f : Nat → Int} (h : Sc B w v n f) (hB : B ≤ w.heap.size) (x : Int) (x0 : 0 ≤ x) (x1 : x ≤ 65535) :
    Calls Try.prog 13 #[v, .int .i64 (1 + x % 4)] w (ActPost B w v n f 0 x (.int .i64 (sumZ f (1 + x % 4).toNat))) := by
  obtain ⟨O, hO, h⟩ := h; exact (number_so h x x0 x1).mono fun e w' h => h.low hO hB
theorem bytes_sc {B : Nat} {w : World} {v : Value} {n : Nat} {f : Nat → Int} (h : Sc B w v n f) (hB : B ≤ w.heap.size) (x : Int) (x0 : 0 ≤ x) (x1 : x ≤ 65535) :
    Calls Try.prog 14 #[v, .int .i64 x] w fun e w' => ∃ a c, ActPost B w v n f 1 x (.slice a x.toNat c) e w' ∧ (errZ n f 1 x = 0 → w'.ownsRow w.heap.size 5 1 (.slice a x.toNat c) x.toNat (cellsK .u8 x.toNat f)) := by
  obtain ⟨O, hO, h⟩ := h; exact (bytes_so h x x0 x1).mono fun e w' ⟨a, c, h, h2⟩ => ⟨a, c, h.low hO hB, h2⟩
theorem name_sc {B : Nat} {w : World} {v : Value} {n : Nat} {f : Nat → Int} (h : Sc B w v n f) (hB : B ≤ w.heap.size) (x : Int) :
    Calls Try.prog 15 #[v] w (ActPost B w v n f 2 x (.string (textF (f 0).toNat fun i => f (i + 1)))) := by
  obtain ⟨O, hO, h⟩ := h; exact (name_so h x).mono fun e w' h => h.low hO hB
theorem float_sc {B : Nat} {w : World} {v : Value} {n : Nat} {f : Nat → Int} (h : Sc B w v n f) (hB : B ≤ w.heap.size) (x : Int) :
    Calls Try.prog 16 #[v] w (ActPost B w v n f 3 x (.float .f64 (eightZ f).toNat)) := by
  obtain ⟨O, hO, h⟩ := h; exact (float_so h x).mono fun e w' h => h.low hO hB
theorem count_sc {B : Nat} {w : World} {v : Value} {n : Nat} {f : Nat → Int} (h : Sc B w v n f) (hB : B ≤ w.heap.size) (x : Int) (x0 : 0 ≤ x) (x1 : x ≤ 65535) :
    Calls Try.prog 17 #[v, .int .i64 x] w (ActPost B w v n f 4 x (.int .i64 (f 0 + 256 * f 1))) := by
  obtain ⟨O, hO, h⟩ := h; exact (count_so h x x0 x1).mono fun e w' h => h.low hO hB
end Go.Proofs.Ytgnokbmhbeeblaa
