/- How an instruction that came in is opened, and what a row's frame wants, in a seat without a laid table. -/
import Derived.Test.YtgcifbamfdahdaaRows
import Derived.Test.YtgcifbamfdahdaaCalls
import Derived.OpenShut
import Derived.ShutString
import Derived.ChangeOld
import Derived.Below
import Derived.Lib.SmallJoins
import Derived.Deep.Strs
import Derived.OwnWalk
namespace Go.Proofs.Ytgcifbamfdahdaa
open Go.ChangeShapes Go.WideShapes Go.ChangeAt Go.RowKit
set_option linter.unusedVariables false

theorem own : ownKnob Try.prog.godebug = none := by kernel_rfl
theorem laidOut : laidOutB Try.prog = true := by kernel_rfl
theorem c3 : Try.prog.cellsOf 3 = 1 := by kernel_rfl
theorem wf_i64_bd {x : Int} (h : (Lit.int .i64 x).wf = true) : -9223372036854775808 ≤ x ∧ x ≤ 9223372036854775807 := by
  simp [Lit.wf, IntKind.min, IntKind.max, IntKind.signed, IntKind.bits] at h; omega
theorem wf_u32_bd {x : Int} (h : (Lit.int .u32 x).wf = true) : 0 ≤ x ∧ x < 4294967296 := by
  simp [Lit.wf, IntKind.min, IntKind.max, IntKind.signed, IntKind.bits] at h; omega
theorem wf_u8_bd {x : Int} (h : (Lit.int .u8 x).wf = true) : 0 ≤ x ∧ x < 256 := by
  simp [Lit.wf, IntKind.min, IntKind.max, IntKind.signed, IntKind.bits] at h; omega
theorem cell_later' {w w' : World} {k off : Nat} {v : Value} (h : w.cell? ⟨k, off, none⟩ = some v) (hb : Below w.heap.size w w') : w'.cell? ⟨k, off, none⟩ = some v :=
  (hb.cell (p := ⟨k, off, none⟩) (World.block_lt_of_cell? w ⟨k, off, none⟩ h)).trans h

theorem bnext {a b c : World} (h : Below a.heap.size a b) (k : Below b.heap.size b c) : Below a.heap.size a c := h.trans (k.mono h.size)

/-- An instruction that came in. -/
theorem open_ins {H : Type} {enc : TypeId × Value → H} {W : World} {r : Reach} {b0 base : Nat} {sp : Nat → Bool} {held : Bool} {v : Value} {d : DataW H} {p : List MemPlace}
    (hv : Value.okWide Try.prog W r b0 23 v) (h : DataW.Trod enc Try.prog W base sp held 23 v d p) :
    ∃ op a b c imm : Int, v = .agg (#[.int .i64 op, .int .i64 a, .int .i64 b, .int .i64 c, .int .i64 imm]) ∧ ((Lit.int .i64 op).wf = true ∧ (Lit.int .i64 a).wf = true ∧ (Lit.int .i64 b).wf = true ∧ (Lit.int .i64 c).wf = true ∧ (Lit.int .i64 imm).wf = true) := by
  obtain ⟨cs, rfl, hsz⟩ := Go.WideShapes.okWide_struct Try.underlying23 hv
  obtain ⟨fuel, hf⟩ := h
  obtain ⟨xs, n, _, hx, hl, hlen, hfs⟩ := DataW.trod_struct Try.underlying23 hf
  have hc : Try.prog.cellsOf 23 = 5 := by kernel_rfl
  rw [hc] at hsz
  have hl5 : xs.length = 5 := hlen
  have key : ∀ (i : Nat) (f : Field), i < 5 → f.type = 3 → f.offset = i → (#[{ name := "Op", type := 3, offset := 0, embedded := false, tag := "", pkgPath := "", byteOffset := 0 }, { name := "A", type := 3, offset := 1, embedded := false, tag := "", pkgPath := "", byteOffset := 8 }, { name := "B", type := 3, offset := 2, embedded := false, tag := "", pkgPath := "", byteOffset := 16 }, { name := "C", type := 3, offset := 3, embedded := false, tag := "", pkgPath := "", byteOffset := 24 }, { name := "Imm", type := 3, offset := 4, embedded := false, tag := "", pkgPath := "", byteOffset := 32 }] : Array Field)[i]? = some f → ∃ x : Int, cs.toList[i]? = some (.int .i64 x) ∧ (Lit.int .i64 x).wf = true := by
    intro i f hi ht ho hf'
    have h1 := hfs i f hf'
    rw [ht, ho, c3, List.getElem?_eq_getElem (by omega)] at h1
    obtain ⟨x, e, _, w⟩ := DataW.trod_int Try.underlying3 h1
    have g := congrArg (·[0]?) e
    simp [Value.cells] at g
    exact ⟨x, by simpa using g, w⟩
  obtain ⟨x0, g0, w0⟩ := key 0 _ (by omega) rfl rfl rfl
  obtain ⟨x1, g1, w1⟩ := key 1 _ (by omega) rfl rfl rfl
  obtain ⟨x2, g2, w2⟩ := key 2 _ (by omega) rfl rfl rfl
  obtain ⟨x3, g3, w3⟩ := key 3 _ (by omega) rfl rfl rfl
  obtain ⟨x4, g4, w4⟩ := key 4 _ (by omega) rfl rfl rfl
  refine ⟨x0, x1, x2, x3, x4, ?_, w0, w1, w2, w3, w4⟩
  obtain ⟨l⟩ := cs
  have hl' : l.length = 5 := hsz
  match l, hl' with
  | [c0, c1, c2, c3, c4], _ =>
    simp at g0 g1 g2 g3 g4
    subst g0 g1 g2 g3 g4
    rfl

/-- An instruction's five cells stand at the head of a block. -/
def InsAt (w : World) (k : Nat) (op a b c imm : Int) : Prop :=
  w.cell? ⟨k, 0, none⟩ = some (.int .i64 op) ∧ w.cell? ⟨k, 1, none⟩ = some (.int .i64 a) ∧ w.cell? ⟨k, 2, none⟩ = some (.int .i64 b) ∧ w.cell? ⟨k, 3, none⟩ = some (.int .i64 c) ∧ w.cell? ⟨k, 4, none⟩ = some (.int .i64 imm)
theorem InsAt.later {w w' : World} {k : Nat} {op a b c imm : Int} (h : InsAt w k op a b c imm) (hb : Below w.heap.size w w') : InsAt w' k op a b c imm :=
  ⟨cell_later' h.1 hb, cell_later' h.2.1 hb, cell_later' h.2.2.1 hb, cell_later' h.2.2.2.1 hb, cell_later' h.2.2.2.2 hb⟩
theorem new_cell' (w : World) (cs : Array Value) (t : TypeId) (i : Nat) (v : Value) (h : cs[i]? = some v) : (w.alloc (.cells cs t)).cell? ⟨w.heap.size, i, none⟩ = some v := by simp [go_sem, h]
theorem InsAt.new (w : World) (op a b c imm : Int) (t : TypeId) : InsAt (w.alloc (.cells (#[.int .i64 op, .int .i64 a, .int .i64 b, .int .i64 c, .int .i64 imm]) t)) w.heap.size op a b c imm :=
  ⟨new_cell' w _ _ 0 _ rfl, new_cell' w _ _ 1 _ rfl, new_cell' w _ _ 2 _ rfl, new_cell' w _ _ 3 _ rfl, new_cell' w _ _ 4 _ rfl⟩
end Go.Proofs.Ytgcifbamfdahdaa
