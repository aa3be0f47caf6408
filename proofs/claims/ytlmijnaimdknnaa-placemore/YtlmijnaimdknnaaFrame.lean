/- How an instruction that came in is opened, and what a row's frame wants, in a seat without a laid table. -/
import Derived.Test.YtlmijnaimdknnaaRows
import Derived.Test.YtlmijnaimdknnaaCalls
import Derived.OpenShut
import Derived.ShutString
import Derived.ChangeOld
import Derived.Below
import Derived.Lib.SmallJoins
import Derived.Deep.Strs
import Derived.OwnWalk
namespace Go.Proofs.Ytlmijnaimdknnaa
open Go.ChangeShapes Go.WideShapes Go.ChangeAt Go.RowKit
set_option linter.unusedVariables false
set_option maxRecDepth 100000

theorem own : ownKnob Try.prog.godebug = none := by kernel_rfl
theorem laidOut : laidOutB Try.prog = true := by kernel_rfl
theorem wf_i64_bd {x : Int} (h : (Lit.int .i64 x).wf = true) : -9223372036854775808 ≤ x ∧ x ≤ 9223372036854775807 := by
  simp [Lit.wf, IntKind.min, IntKind.max, IntKind.signed, IntKind.bits] at h; omega
theorem wf_u32_bd {x : Int} (h : (Lit.int .u32 x).wf = true) : 0 ≤ x ∧ x < 4294967296 := by
  simp [Lit.wf, IntKind.min, IntKind.max, IntKind.signed, IntKind.bits] at h; omega
theorem wf_u8_bd {x : Int} (h : (Lit.int .u8 x).wf = true) : 0 ≤ x ∧ x < 256 := by
  simp [Lit.wf, IntKind.min, IntKind.max, IntKind.signed, IntKind.bits] at h; omega
theorem cell_later' {w w' : World} {k off : Nat} {v : Value} (h : w.cell? ⟨k, off, none⟩ = some v) (hb : Below w.heap.size w w') : w'.cell? ⟨k, off, none⟩ = some v :=
  (hb.cell (p := ⟨k, off, none⟩) (World.block_lt_of_cell? w ⟨k, off, none⟩ h)).trans h

theorem bnext {a b c : World} (h : Below a.heap.size a b) (k : Below b.heap.size b c) : Below a.heap.size a c := h.trans (k.mono h.size)

theorem new_cell' (w : World) (cs : Array Value) (t : TypeId) (i : Nat) (v : Value) (h : cs[i]? = some v) : (w.alloc (.cells cs t)).cell? ⟨w.heap.size, i, none⟩ = some v := by simp [go_sem, h]
/-- A Boolean that came in. -/
theorem open_bool {H : Type} {enc : TypeId × Value → H} {W : World} {r : Reach} {b0 base : Nat} {sp : Nat → Bool} {held : Bool} {t : TypeId} {v : Value} {d : DataW H} {p : List MemPlace} (ht : Try.prog.underlying t = some .bool)
    (hv : Value.okWide Try.prog W r b0 t v) (h : DataW.Trod enc Try.prog W base sp held t v d p) : ∃ b, v = .bool b ∧ d = .lit (.bool b) ∧ p = [] := by
  obtain ⟨b, rfl⟩ := okWide_bool ht hv
  obtain ⟨fuel, hf⟩ := h
  obtain ⟨b', e, hx⟩ := DataW.trod_bool ht hf
  simp [Value.cells] at e
  subst e
  simp only [Prod.mk.injEq] at hx
  exact ⟨b, rfl, hx.1, hx.2⟩
/-- A slice of integers that came in: nil, or a row of cells. -/
def IsRow (k : IntKind) (w : World) (a : Option Addr) (len cap : Nat) (zs : List Int) : Prop :=
  (a = none ∧ len = 0 ∧ cap = 0 ∧ zs = []) ∨
  ∃ x, a = some x ∧ len ≤ cap ∧ cap ≤ maxLen ∧ zs.length = cap ∧ (∀ i, i < zs.length → w.cell? (x.add i) = some (.int k (zs.getD i 0))) ∧ ∀ n ∈ zs, (Lit.int k n).wf = true
/-- A row's n numbers, as far as they are read; each of them is a byte. -/
def Bytes (w : World) (a : Option Addr) (n : Nat) (f : Nat → Int) : Prop :=
  (∀ i, 0 ≤ f i ∧ f i < 256) ∧ (n = 0 ∨ ∃ b off, a = some ⟨b, off, none⟩ ∧ ∀ i, i < n → w.cell? ⟨b, off + i, none⟩ = some (.int .u8 (f i)))
theorem Bytes.later {w w' : World} {a : Option Addr} {n : Nat} {f : Nat → Int} (h : Bytes w a n f) (hb : Below w.heap.size w w') : Bytes w' a n f :=
  ⟨h.1, h.2.imp id fun ⟨b, off, e, h⟩ => ⟨b, off, e, fun i hi => cell_later' (h i hi) hb⟩⟩
theorem bytes_of_row {w : World} {a : Option Addr} {len cap : Nat} {zs : List Int} (h : IsRow .u8 w a len cap zs) : len ≤ cap ∧ cap ≤ maxLen ∧ (a = none → cap = 0) ∧ ∃ f, Bytes w a len f := by
  rcases h with ⟨_, rfl, rfl, _⟩ | ⟨x, rfl, hl, hm, hz, hcell, hwz⟩
  · exact ⟨Nat.le_refl _, Nat.zero_le _, fun _ => rfl, fun _ => 0, fun i => ⟨by simp, by simp⟩, .inl rfl⟩
  · refine ⟨hl, hm, (fun h => nomatch h), fun i => zs.getD i 0, fun i => ?_, ?_⟩
    · by_cases hi : i < zs.length
      · have := hwz (zs.getD i 0) (by rw [List.getD_eq_getElem?_getD, List.getElem?_eq_getElem hi]; simp)
        simp [Lit.wf, IntKind.min, IntKind.max, IntKind.signed, IntKind.bits] at this
        simp only [List.getD_eq_getElem?_getD]; omega
      · have e : zs[i]? = none := List.getElem?_eq_none (by omega)
        simp [List.getD_eq_getElem?_getD, e]
    · by_cases h0 : len = 0
      · exact .inl h0
      · obtain ⟨b, off, spot⟩ := x
        have hc := hcell 0 (by omega)
        have hspot : spot = none := by simpa [Addr.add] using World.cell?_spot hc
        subst hspot
        exact .inr ⟨b, off, rfl, fun i hi => by have := hcell i (by omega); rwa [show (⟨b, off, none⟩ : Addr).add i = ⟨b, off + i, none⟩ from by cases i <;> simp [Addr.add]] at this⟩
/-- A row's n numbers of the kind k, as far as they are read. -/
def RowK (k : IntKind) (w : World) (a : Option Addr) (n : Nat) (f : Nat → Int) : Prop :=
  (∀ i, (Lit.int k (f i)).wf = true) ∧ (n = 0 ∨ ∃ b off, a = some ⟨b, off, none⟩ ∧ ∀ i, i < n → w.cell? ⟨b, off + i, none⟩ = some (.int k (f i)))
theorem RowK.later {k : IntKind} {w w' : World} {a : Option Addr} {n : Nat} {f : Nat → Int} (h : RowK k w a n f) (hb : Below w.heap.size w w') : RowK k w' a n f :=
  ⟨h.1, h.2.imp id fun ⟨b, off, e, h⟩ => ⟨b, off, e, fun i hi => cell_later' (h i hi) hb⟩⟩
theorem wf_zero (k : IntKind) : (Lit.int k 0).wf = true := by cases k <;> rfl
theorem rowK_of_row {k : IntKind} {w : World} {a : Option Addr} {len cap : Nat} {zs : List Int} (h : IsRow k w a len cap zs) : len ≤ cap ∧ cap ≤ maxLen ∧ (a = none → cap = 0) ∧ ∃ f, RowK k w a len f := by
  rcases h with ⟨_, rfl, rfl, _⟩ | ⟨x, rfl, hl, hm, hz, hcell, hwz⟩
  · exact ⟨Nat.le_refl _, Nat.zero_le _, fun _ => rfl, fun _ => 0, fun _ => wf_zero k, .inl rfl⟩
  · refine ⟨hl, hm, (fun h => nomatch h), fun i => zs.getD i 0, fun i => ?_, ?_⟩
    · by_cases hi : i < zs.length
      · exact hwz (zs.getD i 0) (by rw [List.getD_eq_getElem?_getD, List.getElem?_eq_getElem hi]; simp)
      · have e : zs[i]? = none := List.getElem?_eq_none (by omega)
        simp [List.getD_eq_getElem?_getD, e, wf_zero]
    · by_cases h0 : len = 0
      · exact .inl h0
      · obtain ⟨b, off, spot⟩ := x
        have hc := hcell 0 (by omega)
        have hspot : spot = none := by simpa [Addr.add] using World.cell?_spot hc
        subst hspot
        exact .inr ⟨b, off, rfl, fun i hi => by have := hcell i (by omega); rwa [show (⟨b, off, none⟩ : Addr).add i = ⟨b, off + i, none⟩ from by cases i <;> simp [Addr.add]] at this⟩
/-- A slice of integers that came in: its cell, opened. -/
theorem open_cell {H : Type} {enc : TypeId × Value → H} {W : World} {base : Nat} {held : Bool} {t e : TypeId} {k : IntKind} {fuel : Nat} {c : Value} {x : DataW H × List MemPlace} (ht : Try.prog.underlying t = some (.slice e)) (he : Try.prog.underlying e = some (.int k)) (hc : Try.prog.cellsOf e = 1)
    (h : DataW.trod enc Try.prog W base (fun _ => true) held fuel t [c] = some x) : ∃ a len cap f, c = .slice a len cap ∧ len ≤ cap ∧ cap ≤ maxLen ∧ (a = none → cap = 0) ∧ RowK k W a len f := by
  rcases open_ints ht he hc h with ⟨hcs, _⟩ | ⟨y, l, c', zs, hcs, _, hlc, hm, hz, _, hcell, hwz⟩
  · simp at hcs
    subst hcs
    obtain ⟨k0, k1, k3, f, k2⟩ := rowK_of_row (.inl ⟨rfl, rfl, rfl, rfl⟩ : IsRow k W none 0 0 [])
    exact ⟨none, 0, 0, f, rfl, k0, k1, k3, k2⟩
  · simp at hcs
    subst hcs
    obtain ⟨k0, k1, k3, f, k2⟩ := rowK_of_row (.inr ⟨y, rfl, hlc, hm, by simpa using hz, hcell, hwz⟩ : IsRow k W (some y) l c' zs)
    exact ⟨some y, l, c', f, rfl, k0, k1, k3, k2⟩
/-- A slice of integers that came in. -/
theorem open_sl {H : Type} {enc : TypeId × Value → H} {W : World} {r : Reach} {b0 base : Nat} {held : Bool} {t e : TypeId} {k : IntKind} {v : Value} {d : DataW H} {p : List MemPlace} (ht : Try.prog.underlying t = some (.slice e)) (he : Try.prog.underlying e = some (.int k)) (hc : Try.prog.cellsOf e = 1)
    (hv : Value.okWide Try.prog W r b0 t v) (h : DataW.Trod enc Try.prog W base (fun _ => true) held t v d p) : ∃ a len cap f, v = .slice a len cap ∧ (len ≤ cap ∧ cap ≤ maxLen ∧ (a = none → cap = 0) ∧ RowK k W a len f) := by
  obtain ⟨a, len, cap, rfl⟩ := okWide_slice ht hv
  obtain ⟨fuel, hf⟩ := h
  obtain ⟨a', l', c', f, e', h1⟩ := open_cell ht he hc hf
  simp only [Value.slice.injEq] at e'
  obtain ⟨rfl, rfl, rfl⟩ := e'
  exact ⟨a, len, cap, f, rfl, h1⟩
theorem bytes_of_rowK {w : World} {a : Option Addr} {n : Nat} {f : Nat → Int} (h : RowK .u8 w a n f) : Bytes w a n f :=
  ⟨fun i => wf_u8_bd (h.1 i), h.2⟩
theorem m3 : Try.prog.cellsOf 3 = 1 := by kernel_rfl
theorem m22 : Try.prog.cellsOf 29 = 1 := by kernel_rfl
end Go.Proofs.Ytlmijnaimdknnaa
