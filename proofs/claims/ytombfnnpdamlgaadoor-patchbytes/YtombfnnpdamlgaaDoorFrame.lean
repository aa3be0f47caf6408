/- How an instruction that came in is opened, and what a row's frame wants, in a seat without a laid table. -/
import Derived.Test.YtombfnnpdamlgaaDoorRows
import Derived.Test.YtombfnnpdamlgaaDoorCalls
import Derived.OpenShut
import Derived.ShutString
import Derived.ChangeOld
import Derived.Below
import Derived.Lib.SmallJoins
import Derived.Deep.Strs
import Derived.OwnWalk
namespace Go.Proofs.YtombfnnpdamlgaaDoor
open Go.ChangeShapes Go.WideShapes Go.ChangeAt Go.RowKit
set_option linter.unusedVariables false
set_option maxRecDepth 100000

theorem own : ownKnob Tryd.prog.godebug = none := by kernel_rfl
theorem laidOut : laidOutB Tryd.prog = true := by kernel_rfl
theorem wf_i64_bd {x : Int} (h : (Lit.int .i64 x).wf = true) : -9223372036854775808 ≤ x ∧ x ≤ 9223372036854775807 := by
  simp [Lit.wf, IntKind.min, IntKind.max, IntKind.signed, IntKind.bits] at h; omega
theorem wf_u32_bd {x : Int} (h : (Lit.int .u32 x).wf = true) : 0 ≤ x ∧ x < 4294967296 := by
  simp [Lit.wf, IntKind.min, IntKind.max, IntKind.signed, IntKind.bits] at h; omega
theorem wf_u8_bd {x : Int} (h : (Lit.int .u8 x).wf = true) : 0 ≤ x ∧ x < 256 := by
  simp [Lit.wf, IntKind.min, IntKind.max, IntKind.signed, IntKind.bits] at h; omega
theorem cell_later' {w w' : World} {k off : Nat} {v : Value} (h : w.cell? ⟨k, off, none⟩ = some v) (hb : Below w.heap.size w w') : w'.cell? ⟨k, off, none⟩ = some v :=
  (hb.cell (p := ⟨k, off, none⟩) (World.block_lt_of_cell? w ⟨k, off, none⟩ h)).trans h

theorem bnext {a b c : World} (h : Below a.heap.size a b) (k : Below b.heap.size b c) : Below a.heap.size a c := h.trans (k.mono h.size)

theorem new_cell' (w : World) (cs : Array Value) (t : TypeId) (i : Nat) (v : Value) (h : cs[i]? = some v) : (w.alloc (.cells cs t)).cell? ⟨w.heap.size, i, none⟩ = some v := by simp [go_sem, h]
/-- A Boolean that came in. -/
theorem open_bool {H : Type} {enc : TypeId × Value → H} {W : World} {r : Reach} {b0 base : Nat} {sp : Nat → Bool} {held : Bool} {t : TypeId} {v : Value} {d : DataW H} {p : List MemPlace} (ht : Tryd.prog.underlying t = some .bool)
    (hv : Value.okWide Tryd.prog W r b0 t v) (h : DataW.Trod enc Tryd.prog W base sp held t v d p) : ∃ b, v = .bool b ∧ d = .lit (.bool b) ∧ p = [] := by
  obtain ⟨b, rfl⟩ := okWide_bool ht hv
  obtain ⟨fuel, hf⟩ := h
  obtain ⟨b', e, hx⟩ := DataW.trod_bool ht hf
  simp [Value.cells] at e
  subst e
  simp only [Prod.mk.injEq] at hx
  exact ⟨b, rfl, hx.1, hx.2⟩
/-- A slice of integers that came in: nil, or a row of cells. -/
def IsRow (k : IntKind) (w : World) (a : Option Addr) (len cap : Nat) (zs : List Int) : Prop :=
  (a = none ∧ len = 0 ∧ cap = 0 ∧ zs = []) ∨
  ∃ x, a = some x ∧ len ≤ cap ∧ cap ≤ maxLen ∧ zs.length = cap ∧ (∀ i, i < zs.length → w.cell? (x.add i) = some (.int k (zs.getD i 0))) ∧ ∀ n ∈ zs, (Lit.int k n).wf = true
/-- A row's n numbers, as far as they are read; each of them is a byte. -/
def Bytes (w : World) (a : Option Addr) (n : Nat) (f : Nat → Int) : Prop :=
  (∀ i, 0 ≤ f i ∧ f i < 256) ∧ (n = 0 ∨ ∃ b off, a = some ⟨b, off, none⟩ ∧ ∀ i, i < n → w.cell? ⟨b, off + i, none⟩ = some (.int .u8 (f i)))
theorem Bytes.later {w w' : World} {a : Option Addr} {n : Nat} {f : Nat → Int} (h : Bytes w a n f) (hb : Below w.heap.size w w') : Bytes w' a n f :=
  ⟨h.1, h.2.imp id fun ⟨b, off, e, h⟩ => ⟨b, off, e, fun i hi => cell_later' (h i hi) hb⟩⟩
theorem bytes_of_row {w : World} {a : Option Addr} {len cap : Nat} {zs : List Int} (h : IsRow .u8 w a len cap zs) : len ≤ cap ∧ cap ≤ maxLen ∧ (a = none → cap = 0) ∧ ∃ f, Bytes w a len f := by
  rcases h with ⟨_, rfl, rfl, _⟩ | ⟨x, rfl, hl, hm, hz, hcell, hwz⟩
  · exact ⟨Nat.le_refl _, Nat.zero_le _, fun _ => rfl, fun _ => 0, fun i => ⟨by simp, by simp⟩, .inl rfl⟩
  · refine ⟨hl, hm, (fun h => nomatch h), fun i => zs.getD i 0, fun i => ?_, ?_⟩
    · by_cases hi : i < zs.length
      · have := hwz (zs.getD i 0) (by rw [List.getD_eq_getElem?_getD, List.getElem?_eq_getElem hi]; simp)
        simp [Lit.wf, IntKind.min, IntKind.max, IntKind.signed, IntKind.bits] at this
        simp only [List.getD_eq_getElem?_getD]; omega
      · have e : zs[i]? = none := List.getElem?_eq_none (by omega)
        simp [List.getD_eq_getElem?_getD, e]
    · by_cases h0 : len = 0
      · exact .inl h0
      · obtain ⟨b, off, spot⟩ := x
        have hc := hcell 0 (by omega)
        have hspot : spot = none := by simpa [Addr.add] using World.cell?_spot hc
        subst hspot
        exact .inr ⟨b, off, rfl, fun i hi => by have := hcell i (by omega); rwa [show (⟨b, off, none⟩ : Addr).add i = ⟨b, off + i, none⟩ from by cases i <;> simp [Addr.add]] at this⟩
/-- A row's n numbers of the kind k, as far as they are read. -/
def RowK (k : IntKind) (w : World) (a : Option Addr) (n : Nat) (f : Nat → Int) : Prop :=
  (∀ i, (Lit.int k (f i)).wf = true) ∧ (n = 0 ∨ ∃ b off, a = some ⟨b, off, none⟩ ∧ ∀ i, i < n → w.cell? ⟨b, off + i, none⟩ = some (.int k (f i)))
theorem RowK.later {k : IntKind} {w w' : World} {a : Option Addr} {n : Nat} {f : Nat → Int} (h : RowK k w a n f) (hb : Below w.heap.size w w') : RowK k w' a n f :=
  ⟨h.1, h.2.imp id fun ⟨b, off, e, h⟩ => ⟨b, off, e, fun i hi => cell_later' (h i hi) hb⟩⟩
theorem wf_zero (k : IntKind) : (Lit.int k 0).wf = true := by cases k <;> rfl
theorem rowK_of_row {k : IntKind} {w : World} {a : Option Addr} {len cap : Nat} {zs : List Int} (h : IsRow k w a len cap zs) : len ≤ cap ∧ cap ≤ maxLen ∧ (a = none → cap = 0) ∧ ∃ f, RowK k w a len f := by
  rcases h with ⟨_, rfl, rfl, _⟩ | ⟨x, rfl, hl, hm, hz, hcell, hwz⟩
  · exact ⟨Nat.le_refl _, Nat.zero_le _, fun _ => rfl, fun _ => 0, fun _ => wf_zero k, .inl rfl⟩
  · refine ⟨hl, hm, (fun h => nomatch h), fun i => zs.getD i 0, fun i => ?_, ?_⟩
    · by_cases hi : i < zs.length
      · exact hwz (zs.getD i 0) (by rw [List.getD_eq_getElem?_getD, List.getElem?_eq_getElem hi]; simp)
      · have e : zs[i]? = none := List.getElem?_eq_none (by omega)
        simp [List.getD_eq_getElem?_getD, e, wf_zero]
    · by_cases h0 : len = 0
      · exact .inl h0
      · obtain ⟨b, off, spot⟩ := x
        have hc := hcell 0 (by omega)
        have hspot : spot = none := by simpa [Addr.add] using World.cell?_spot hc
        subst hspot
        exact .inr ⟨b, off, rfl, fun i hi => by have := hcell i (by omega); rwa [show (⟨b, off, none⟩ : Addr).add i = ⟨b, off + i, none⟩ from by cases i <;> simp [Addr.add]] at this⟩
/-- A slice of integers that came in: its cell, opened. -/
theorem open_cell {H : Type} {enc : TypeId × Value → H} {W : World} {base : Nat} {held : Bool} {t e : TypeId} {k : IntKind} {fuel : Nat} {c : Value} {x : DataW H × List MemPlace} (ht : Tryd.prog.underlying t = some (.slice e)) (he : Tryd.prog.underlying e = some (.int k)) (hc : Tryd.prog.cellsOf e = 1)
    (h : DataW.trod enc Tryd.prog W base (fun _ => true) held fuel t [c] = some x) : ∃ a len cap f, c = .slice a len cap ∧ len ≤ cap ∧ cap ≤ maxLen ∧ (a = none → cap = 0) ∧ RowK k W a len f := by
  rcases open_ints ht he hc h with ⟨hcs, _⟩ | ⟨y, l, c', zs, hcs, _, hlc, hm, hz, _, hcell, hwz⟩
  · simp at hcs
    subst hcs
    obtain ⟨k0, k1, k3, f, k2⟩ := rowK_of_row (.inl ⟨rfl, rfl, rfl, rfl⟩ : IsRow k W none 0 0 [])
    exact ⟨none, 0, 0, f, rfl, k0, k1, k3, k2⟩
  · simp at hcs
    subst hcs
    obtain ⟨k0, k1, k3, f, k2⟩ := rowK_of_row (.inr ⟨y, rfl, hlc, hm, by simpa using hz, hcell, hwz⟩ : IsRow k W (some y) l c' zs)
    exact ⟨some y, l, c', f, rfl, k0, k1, k3, k2⟩
/-- A slice of integers that came in. -/
theorem open_sl {H : Type} {enc : TypeId × Value → H} {W : World} {r : Reach} {b0 base : Nat} {held : Bool} {t e : TypeId} {k : IntKind} {v : Value} {d : DataW H} {p : List MemPlace} (ht : Tryd.prog.underlying t = some (.slice e)) (he : Tryd.prog.underlying e = some (.int k)) (hc : Tryd.prog.cellsOf e = 1)
    (hv : Value.okWide Tryd.prog W r b0 t v) (h : DataW.Trod enc Tryd.prog W base (fun _ => true) held t v d p) : ∃ a len cap f, v = .slice a len cap ∧ (len ≤ cap ∧ cap ≤ maxLen ∧ (a = none → cap = 0) ∧ RowK k W a len f) := by
  obtain ⟨a, len, cap, rfl⟩ := okWide_slice ht hv
  obtain ⟨fuel, hf⟩ := h
  obtain ⟨a', l', c', f, e', h1⟩ := open_cell ht he hc hf
  simp only [Value.slice.injEq] at e'
  obtain ⟨rfl, rfl, rfl⟩ := e'
  exact ⟨a, len, cap, f, rfl, h1⟩
theorem bytes_of_rowK {w : World} {a : Option Addr} {n : Nat} {f : Nat → Int} (h : RowK .u8 w a n f) : Bytes w a n f :=
  ⟨fun i => wf_u8_bd (h.1 i), h.2⟩
theorem c3 : Tryd.prog.cellsOf 3 = 1 := by kernel_rfl
/-- An instruction that came in. -/
theorem open_ins {H : Type} {enc : TypeId × Value → H} {W : World} {r : Reach} {b0 base : Nat} {sp : Nat → Bool} {held : Bool} {v : Value} {d : DataW H} {p : List MemPlace}
    (hv : Value.okWide Tryd.prog W r b0 49 v) (h : DataW.Trod enc Tryd.prog W base sp held 49 v d p) :
    ∃ op a b c imm : Int, v = .agg (#[.int .i64 op, .int .i64 a, .int .i64 b, .int .i64 c, .int .i64 imm]) ∧ ((Lit.int .i64 op).wf = true ∧ (Lit.int .i64 a).wf = true ∧ (Lit.int .i64 b).wf = true ∧ (Lit.int .i64 c).wf = true ∧ (Lit.int .i64 imm).wf = true) := by
  obtain ⟨cs, rfl, hsz⟩ := Go.WideShapes.okWide_struct Tryd.underlying49 hv
  obtain ⟨fuel, hf⟩ := h
  obtain ⟨xs, n, _, hx, hl, hlen, hfs⟩ := DataW.trod_struct Tryd.underlying49 hf
  have hc : Tryd.prog.cellsOf 49 = 5 := by kernel_rfl
  rw [hc] at hsz
  have hl5 : xs.length = 5 := hlen
  have key : ∀ (i : Nat) (f : Field), i < 5 → f.type = 3 → f.offset = i → (#[{ name := "Op", type := 3, offset := 0, embedded := false, tag := "", pkgPath := "", byteOffset := 0 }, { name := "A", type := 3, offset := 1, embedded := false, tag := "", pkgPath := "", byteOffset := 8 }, { name := "B", type := 3, offset := 2, embedded := false, tag := "", pkgPath := "", byteOffset := 16 }, { name := "C", type := 3, offset := 3, embedded := false, tag := "", pkgPath := "", byteOffset := 24 }, { name := "Imm", type := 3, offset := 4, embedded := false, tag := "", pkgPath := "", byteOffset := 32 }] : Array Field)[i]? = some f → ∃ x : Int, cs.toList[i]? = some (.int .i64 x) ∧ (Lit.int .i64 x).wf = true := by
    intro i f hi ht ho hf'
    have h1 := hfs i f hf'
    rw [ht, ho, c3, List.getElem?_eq_getElem (by omega)] at h1
    obtain ⟨x, e, _, w⟩ := DataW.trod_int Tryd.underlying3 h1
    have g := congrArg (·[0]?) e
    simp [Value.cells] at g
    exact ⟨x, by simpa using g, w⟩
  obtain ⟨x0, g0, w0⟩ := key 0 _ (by omega) rfl rfl rfl
  obtain ⟨x1, g1, w1⟩ := key 1 _ (by omega) rfl rfl rfl
  obtain ⟨x2, g2, w2⟩ := key 2 _ (by omega) rfl rfl rfl
  obtain ⟨x3, g3, w3⟩ := key 3 _ (by omega) rfl rfl rfl
  obtain ⟨x4, g4, w4⟩ := key 4 _ (by omega) rfl rfl rfl
  refine ⟨x0, x1, x2, x3, x4, ?_, w0, w1, w2, w3, w4⟩
  obtain ⟨l⟩ := cs
  have hl' : l.length = 5 := hsz
  match l, hl' with
  | [c0, c1, c2, c3, c4], _ =>
    simp at g0 g1 g2 g3 g4
    subst g0 g1 g2 g3 g4
    rfl

/-- An instruction's five cells stand at the head of a block. -/
def InsAt (w : World) (k : Nat) (op a b c imm : Int) : Prop :=
  w.cell? ⟨k, 0, none⟩ = some (.int .i64 op) ∧ w.cell? ⟨k, 1, none⟩ = some (.int .i64 a) ∧ w.cell? ⟨k, 2, none⟩ = some (.int .i64 b) ∧ w.cell? ⟨k, 3, none⟩ = some (.int .i64 c) ∧ w.cell? ⟨k, 4, none⟩ = some (.int .i64 imm)
theorem InsAt.later {w w' : World} {k : Nat} {op a b c imm : Int} (h : InsAt w k op a b c imm) (hb : Below w.heap.size w w') : InsAt w' k op a b c imm :=
  ⟨cell_later' h.1 hb, cell_later' h.2.1 hb, cell_later' h.2.2.1 hb, cell_later' h.2.2.2.1 hb, cell_later' h.2.2.2.2 hb⟩
theorem InsAt.new (w : World) (op a b c imm : Int) (t : TypeId) : InsAt (w.alloc (.cells (#[.int .i64 op, .int .i64 a, .int .i64 b, .int .i64 c, .int .i64 imm]) t)) w.heap.size op a b c imm :=
  ⟨new_cell' w _ _ 0 _ rfl, new_cell' w _ _ 1 _ rfl, new_cell' w _ _ 2 _ rfl, new_cell' w _ _ 3 _ rfl, new_cell' w _ _ 4 _ rfl⟩
end Go.Proofs.YtombfnnpdamlgaaDoor
