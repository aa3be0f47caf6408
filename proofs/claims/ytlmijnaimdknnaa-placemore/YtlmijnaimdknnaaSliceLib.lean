/- What the library's functions on slices return, at bytes and at integers: one contract a function. -/
import Derived.Test.YtlmijnaimdknnaaAppends
import Derived.Test.YtlmijnaimdknnaaStateCmp
import Derived.Lib.SliceRun
import Derived.Lib.AppendZeros
import Derived.Laws.BytesArg
import Derived.Lib.Bytes
namespace Go.Proofs.Ytlmijnaimdknnaa
open Go.ChangeShapes Go.WideShapes Go.ChangeAt Go.RowKit
set_option linter.unusedVariables false
set_option linter.unusedSimpArgs false
theorem slB : (Try.prog.info? 5).map (fun i => (i.zero, i.size, i.bytes)) = some (some (.int .u8 0), 1, 1) := by kernel_rfl
theorem slI : (Try.prog.info? 3).map (fun i => (i.zero, i.size, i.bytes)) = some (some (.int .i64 0), 1, 8) := by kernel_rfl
theorem own_none {w : World} {base : Nat} {e : TypeId} : w.ownsRow base e 1 (.slice none 0 0) 0 [] := ⟨rfl, .inl ⟨rfl, rfl⟩⟩
theorem own_grown {w : World} {e : TypeId} {cs : Array Value} {cap : Nat} (h1 : cs.size = cap) (h2 : cap ≤ maxLen) (base : Nat) (hb : base ≤ w.heap.size) : (w.alloc (.cells cs e)).ownsRow base e 1 (.slice (some ⟨w.heap.size, 0, none⟩) 0 cap) 0 [] :=
  ⟨rfl, .inr ⟨w.heap.size, cap, cs, rfl, hb, by show (w.heap.push _)[w.heap.size]? = _; simp, Nat.zero_le _, h2, by omega, by simp⟩⟩
theorem size_zeroCells1 (z : Value) (hz : z.cells.size = 1) (n : Nat) : (Builtin.zeroCells z.cells n).size = n := by
  rw [size_zeroCells, hz, Nat.mul_one]
theorem own_blk {w : World} {base : Nat} {e : TypeId} {a : Option Addr} {n cap : Nat} {xs : List Value} {size : Nat} (h : w.ownsRow base e size (.slice a n cap) n xs) : ∀ x, a = some x → base ≤ x.block := by
  intro x e
  rcases h.2 with ⟨q, _⟩ | ⟨g, cap, cur, q, hb, _⟩
  · simp only [Value.slice.injEq] at q; rw [q.1] at e; cases e
  · simp only [Value.slice.injEq] at q; rw [q.1] at e; cases e; exact hb
theorem iter2 {k : Nat} (h : k ≤ 2) : k = 0 ∨ k = 1 ∨ k = 2 := by omega
end Go.Proofs.Ytlmijnaimdknnaa
