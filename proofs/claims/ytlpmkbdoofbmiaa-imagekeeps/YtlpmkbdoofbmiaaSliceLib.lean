/- What the library's functions on slices return, at bytes and at integers: one contract a function. -/
import Derived.Test.YtlpmkbdoofbmiaaAppends
import Derived.Test.YtlpmkbdoofbmiaaStateCmp
import Derived.Lib.SliceRun
import Derived.Lib.AppendZeros
import Derived.Laws.BytesArg
import Derived.Lib.Bytes
namespace Go.Proofs.Ytlpmkbdoofbmiaa
open Go.ChangeShapes Go.WideShapes Go.ChangeAt Go.RowKit
set_option linter.unusedVariables false
set_option linter.unusedSimpArgs false
theorem slB : (Try.prog.info? 5).map (fun i => (i.zero, i.size, i.bytes)) = some (some (.int .u8 0), 1, 1) := by kernel_rfl
theorem slI : (Try.prog.info? 3).map (fun i => (i.zero, i.size, i.bytes)) = some (some (.int .i64 0), 1, 8) := by kernel_rfl
theorem own_none {w : World} {base : Nat} {e : TypeId} : w.ownsRow base e 1 (.slice none 0 0) 0 [] := ⟨rfl, .inl ⟨rfl, rfl⟩⟩
theorem own_grown {w : World} {e : TypeId} {cs : Array Value} {cap : Nat} (h1 : cs.size = cap) (h2 : cap ≤ maxLen) (base : Nat) (hb : base ≤ w.heap.size) : (w.alloc (.cells cs e)).ownsRow base e 1 (.slice (some ⟨w.heap.size, 0, none⟩) 0 cap) 0 [] :=
  ⟨rfl, .inr ⟨w.heap.size, cap, cs, rfl, hb, by show (w.heap.push _)[w.heap.size]? = _; simp, Nat.zero_le _, h2, by omega, by simp⟩⟩
theorem size_zeroCells1 (z : Value) (hz : z.cells.size = 1) (n : Nat) : (Builtin.zeroCells z.cells n).size = n := by
  rw [size_zeroCells, hz, Nat.mul_one]
theorem own_blk {w : World} {base : Nat} {e : TypeId} {a : Option Addr} {n cap : Nat} {xs : List Value} {size : Nat} (h : w.ownsRow base e size (.slice a n cap) n xs) : ∀ x, a = some x → base ≤ x.block := by
  intro x e
  rcases h.2 with ⟨q, _⟩ | ⟨g, cap, cur, q, hb, _⟩
  · simp only [Value.slice.injEq] at q; rw [q.1] at e; cases e
  · simp only [Value.slice.injEq] at q; rw [q.1] at e; cases e; exact hb
theorem iter2 {k : Nat} (h : k ≤ 2) : k = 0 ∨ k = 1 ∨ k = 2 := by omega
set_option maxRecDepth 100000 in
set_option maxHeartbeats 1000000 in
theorem clone_b (w : World) (a : Option Addr) (n c : Nat) (f : Nat → Int) (hn : n ≤ 100000) (hh : Head a n c) (hR : RowK .u8 w a n f) :
    Calls Try.prog 37 #[.slice a n c] w fun e w' => ∃ a' c', e = .returned (.slice a' n c') ∧ (Head a' n c' ∧ RowK .u8 w' a' n f) ∧ (∀ x, a' = some x → w.heap.size ≤ x.block) ∧ Below w.heap.size w w' := by
  have q : ∀ (w : World) (a : Option Addr) (n c n' c' : Nat), (binOp .eql 23 (.slice a n c) (.slice none n' c')).run Try.prog w = .ok (.bool a.isNone) w := fun w a n c n' c' => Lib.run_eql_slice_nil w _ _ a n c n' c' Try.underlying23
  have HR : Hid (RowK .u8 w a n f) := hR
  have HH : Hid (Head a n c) := hh
  clear hR hh
  rcases a with _ | a
  · obtain ⟨rfl, rfl⟩ := head_nil HH.out rfl
    go_enter Try.func37, Try.ntmps37
    go_wp2
    go_ret
    exact ⟨none, 0, rfl, ⟨HH.out, HR.out⟩, (fun x e => by cases e), Below.refl _ _⟩
  · go_enter Try.func37, Try.ntmps37
    go_wp2_with (at_builtin; refine wpList_append_fresh w rfl (.tmp 5) (.tmp 6) 23 rfl 5 (.int .u8 0) 1 Try.underlying23 slB rfl rfl (some a) n c (cellsK .u8 n f) rfl (cellsK_len _ _ _) (head_nil HH.out) (row_cells HR.out) (cellsK_one _ _ _) (by unfold maxLen; omega) (by omega) ?_; intro a1 c1 w1 own1 hb1)
    go_ret
    exact ⟨a1, c1, rfl, own_ints own1 HR.out.1, own_blk own1, hb1⟩
end Go.Proofs.Ytlpmkbdoofbmiaa
