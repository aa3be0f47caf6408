/- How an instruction that came in is opened, and what a row's frame wants, in a seat without a laid table. -/
import Derived.Test.YtnpejnjigaalfaaDoorRows
import Derived.Test.YtnpejnjigaalfaaDoorCalls
import Derived.OpenShut
import Derived.ShutString
import Derived.ChangeOld
import Derived.Below
import Derived.Lib.SmallJoins
import Derived.Deep.Strs
import Derived.OwnWalk
namespace Go.Proofs.YtnpejnjigaalfaaDoor
open Go.ChangeShapes Go.WideShapes Go.ChangeAt Go.RowKit
set_option linter.unusedVariables false
set_option maxRecDepth 100000

theorem own : ownKnob Tryd.prog.godebug = none := by kernel_rfl
theorem laidOut : laidOutB Tryd.prog = true := by kernel_rfl
theorem wf_i64_bd {x : Int} (h : (Lit.int .i64 x).wf = true) : -9223372036854775808 ≤ x ∧ x ≤ 9223372036854775807 := by
  simp [Lit.wf, IntKind.min, IntKind.max, IntKind.signed, IntKind.bits] at h; omega
theorem wf_u32_bd {x : Int} (h : (Lit.int .u32 x).wf = true) : 0 ≤ x ∧ x < 4294967296 := by
  simp [Lit.wf, IntKind.min, IntKind.max, IntKind.signed, IntKind.bits] at h; omega
theorem wf_u8_bd {x : Int} (h : (Lit.int .u8 x).wf = true) : 0 ≤ x ∧ x < 256 := by
  simp [Lit.wf, IntKind.min, IntKind.max, IntKind.signed, IntKind.bits] at h; omega
theorem cell_later' {w w' : World} {k off : Nat} {v : Value} (h : w.cell? ⟨k, off, none⟩ = some v) (hb : Below w.heap.size w w') : w'.cell? ⟨k, off, none⟩ = some v :=
  (hb.cell (p := ⟨k, off, none⟩) (World.block_lt_of_cell? w ⟨k, off, none⟩ h)).trans h

theorem bnext {a b c : World} (h : Below a.heap.size a b) (k : Below b.heap.size b c) : Below a.heap.size a c := h.trans (k.mono h.size)

theorem new_cell' (w : World) (cs : Array Value) (t : TypeId) (i : Nat) (v : Value) (h : cs[i]? = some v) : (w.alloc (.cells cs t)).cell? ⟨w.heap.size, i, none⟩ = some v := by simp [go_sem, h]
/-- A Boolean that came in. -/
theorem open_bool {H : Type} {enc : TypeId × Value → H} {W : World} {r : Reach} {b0 base : Nat} {sp : Nat → Bool} {held : Bool} {t : TypeId} {v : Value} {d : DataW H} {p : List MemPlace} (ht : Tryd.prog.underlying t = some .bool)
    (hv : Value.okWide Tryd.prog W r b0 t v) (h : DataW.Trod enc Tryd.prog W base sp held t v d p) : ∃ b, v = .bool b ∧ d = .lit (.bool b) ∧ p = [] := by
  obtain ⟨b, rfl⟩ := okWide_bool ht hv
  obtain ⟨fuel, hf⟩ := h
  obtain ⟨b', e, hx⟩ := DataW.trod_bool ht hf
  simp [Value.cells] at e
  subst e
  simp only [Prod.mk.injEq] at hx
  exact ⟨b, rfl, hx.1, hx.2⟩
/-- A slice of integers that came in: nil, or a row of cells. -/
def IsRow (k : IntKind) (w : World) (a : Option Addr) (len cap : Nat) (zs : List Int) : Prop :=
  (a = none ∧ len = 0 ∧ cap = 0 ∧ zs = []) ∨
  ∃ x, a = some x ∧ len ≤ cap ∧ cap ≤ maxLen ∧ zs.length = cap ∧ (∀ i, i < zs.length → w.cell? (x.add i) = some (.int k (zs.getD i 0))) ∧ ∀ n ∈ zs, (Lit.int k n).wf = true
/-- A row's n numbers, as far as they are read; each of them is a byte. -/
def Bytes (w : World) (a : Option Addr) (n : Nat) (f : Nat → Int) : Prop :=
  (∀ i, 0 ≤ f i ∧ f i < 256) ∧ (n = 0 ∨ ∃ b off, a = some ⟨b, off, none⟩ ∧ ∀ i, i < n → w.cell? ⟨b, off + i, none⟩ = some (.int .u8 (f i)))
theorem Bytes.later {w w' : World} {a : Option Addr} {n : Nat} {f : Nat → Int} (h : Bytes w a n f) (hb : Below w.heap.size w w') : Bytes w' a n f :=
  ⟨h.1, h.2.imp id fun ⟨b, off, e, h⟩ => ⟨b, off, e, fun i hi => cell_later' (h i hi) hb⟩⟩
theorem bytes_of_row {w : World} {a : Option Addr} {len cap : Nat} {zs : List Int} (h : IsRow .u8 w a len cap zs) : len ≤ cap ∧ cap ≤ maxLen ∧ (a = none → cap = 0) ∧ ∃ f, Bytes w a len f := by
  rcases h with ⟨_, rfl, rfl, _⟩ | ⟨x, rfl, hl, hm, hz, hcell, hwz⟩
  · exact ⟨Nat.le_refl _, Nat.zero_le _, fun _ => rfl, fun _ => 0, fun i => ⟨by simp, by simp⟩, .inl rfl⟩
  · refine ⟨hl, hm, (fun h => nomatch h), fun i => zs.getD i 0, fun i => ?_, ?_⟩
    · by_cases hi : i < zs.length
      · have := hwz (zs.getD i 0) (by rw [List.getD_eq_getElem?_getD, List.getElem?_eq_getElem hi]; simp)
        simp [Lit.wf, IntKind.min, IntKind.max, IntKind.signed, IntKind.bits] at this
        simp only [List.getD_eq_getElem?_getD]; omega
      · have e : zs[i]? = none := List.getElem?_eq_none (by omega)
        simp [List.getD_eq_getElem?_getD, e]
    · by_cases h0 : len = 0
      · exact .inl h0
      · obtain ⟨b, off, spot⟩ := x
        have hc := hcell 0 (by omega)
        have hspot : spot = none := by simpa [Addr.add] using World.cell?_spot hc
        subst hspot
        exact .inr ⟨b, off, rfl, fun i hi => by have := hcell i (by omega); rwa [show (⟨b, off, none⟩ : Addr).add i = ⟨b, off + i, none⟩ from by cases i <;> simp [Addr.add]] at this⟩
/-- A row's n numbers of the kind k, as far as they are read. -/
def RowK (k : IntKind) (w : World) (a : Option Addr) (n : Nat) (f : Nat → Int) : Prop :=
  (∀ i, (Lit.int k (f i)).wf = true) ∧ (n = 0 ∨ ∃ b off, a = some ⟨b, off, none⟩ ∧ ∀ i, i < n → w.cell? ⟨b, off + i, none⟩ = some (.int k (f i)))
theorem RowK.later {k : IntKind} {w w' : World} {a : Option Addr} {n : Nat} {f : Nat → Int} (h : RowK k w a n f) (hb : Below w.heap.size w w') : RowK k w' a n f :=
  ⟨h.1, h.2.imp id fun ⟨b, off, e, h⟩ => ⟨b, off, e, fun i hi => cell_later' (h i hi) hb⟩⟩
theorem wf_zero (k : IntKind) : (Lit.int k 0).wf = true := by cases k <;> rfl
theorem rowK_of_row {k : IntKind} {w : World} {a : Option Addr} {len cap : Nat} {zs : List Int} (h : IsRow k w a len cap zs) : len ≤ cap ∧ cap ≤ maxLen ∧ (a = none → cap = 0) ∧ ∃ f, RowK k w a len f := by
  rcases h with ⟨_, rfl, rfl, _⟩ | ⟨x, rfl, hl, hm, hz, hcell, hwz⟩
  · exact ⟨Nat.le_refl _, Nat.zero_le _, fun _ => rfl, fun _ => 0, fun _ => wf_zero k, .inl rfl⟩
  · refine ⟨hl, hm, (fun h => nomatch h), fun i => zs.getD i 0, fun i => ?_, ?_⟩
    · by_cases hi : i < zs.length
      · exact hwz (zs.getD i 0) (by rw [List.getD_eq_getElem?_getD, List.getElem?_eq_getElem hi]; simp)
      · have e : zs[i]? = none := List.getElem?_eq_none (by omega)
        simp [List.getD_eq_getElem?_getD, e, wf_zero]
    · by_cases h0 : len = 0
      · exact .inl h0
      · obtain ⟨b, off, spot⟩ := x
        have hc := hcell 0 (by omega)
        have hspot : spot = none := by simpa [Addr.add] using World.cell?_spot hc
        subst hspot
        exact .inr ⟨b, off, rfl, fun i hi => by have := hcell i (by omega); rwa [show (⟨b, off, none⟩ : Addr).add i = ⟨b, off + i, none⟩ from by cases i <;> simp [Addr.add]] at this⟩
/-- A slice of integers that came in: its cell, opened. -/
theorem open_cell {H : Type} {enc : TypeId × Value → H} {W : World} {base : Nat} {held : Bool} {t e : TypeId} {k : IntKind} {fuel : Nat} {c : Value} {x : DataW H × List MemPlace} (ht : Tryd.prog.underlying t = some (.slice e)) (he : Tryd.prog.underlying e = some (.int k)) (hc : Tryd.prog.cellsOf e = 1)
    (h : DataW.trod enc Tryd.prog W base (fun _ => true) held fuel t [c] = some x) : ∃ a len cap f, c = .slice a len cap ∧ len ≤ cap ∧ cap ≤ maxLen ∧ (a = none → cap = 0) ∧ RowK k W a len f := by
  rcases open_ints ht he hc h with ⟨hcs, _⟩ | ⟨y, l, c', zs, hcs, _, hlc, hm, hz, _, hcell, hwz⟩
  · simp at hcs
    subst hcs
    obtain ⟨k0, k1, k3, f, k2⟩ := rowK_of_row (.inl ⟨rfl, rfl, rfl, rfl⟩ : IsRow k W none 0 0 [])
    exact ⟨none, 0, 0, f, rfl, k0, k1, k3, k2⟩
  · simp at hcs
    subst hcs
    obtain ⟨k0, k1, k3, f, k2⟩ := rowK_of_row (.inr ⟨y, rfl, hlc, hm, by simpa using hz, hcell, hwz⟩ : IsRow k W (some y) l c' zs)
    exact ⟨some y, l, c', f, rfl, k0, k1, k3, k2⟩
/-- A slice of integers that came in. -/
theorem open_sl {H : Type} {enc : TypeId × Value → H} {W : World} {r : Reach} {b0 base : Nat} {held : Bool} {t e : TypeId} {k : IntKind} {v : Value} {d : DataW H} {p : List MemPlace} (ht : Tryd.prog.underlying t = some (.slice e)) (he : Tryd.prog.underlying e = some (.int k)) (hc : Tryd.prog.cellsOf e = 1)
    (hv : Value.okWide Tryd.prog W r b0 t v) (h : DataW.Trod enc Tryd.prog W base (fun _ => true) held t v d p) : ∃ a len cap f, v = .slice a len cap ∧ (len ≤ cap ∧ cap ≤ maxLen ∧ (a = none → cap = 0) ∧ RowK k W a len f) := by
  obtain ⟨a, len, cap, rfl⟩ := okWide_slice ht hv
  obtain ⟨fuel, hf⟩ := h
  obtain ⟨a', l', c', f, e', h1⟩ := open_cell ht he hc hf
  simp only [Value.slice.injEq] at e'
  obtain ⟨rfl, rfl, rfl⟩ := e'
  exact ⟨a, len, cap, f, rfl, h1⟩
theorem bytes_of_rowK {w : World} {a : Option Addr} {n : Nat} {f : Nat → Int} (h : RowK .u8 w a n f) : Bytes w a n f :=
  ⟨fun i => wf_u8_bd (h.1 i), h.2⟩
theorem c3 : Tryd.prog.cellsOf 3 = 1 := by kernel_rfl
/-- An instruction that came in. -/
theorem open_ins {H : Type} {enc : TypeId × Value → H} {W : World} {r : Reach} {b0 base : Nat} {sp : Nat → Bool} {held : Bool} {v : Value} {d : DataW H} {p : List MemPlace}
    (hv : Value.okWide Tryd.prog W r b0 54 v) (h : DataW.Trod enc Tryd.prog W base sp held 54 v d p) :
    ∃ op a b c imm : Int, v = .agg (#[.int .i64 op, .int .i64 a, .int .i64 b, .int .i64 c, .int .i64 imm]) ∧ ((Lit.int .i64 op).wf = true ∧ (Lit.int .i64 a).wf = true ∧ (Lit.int .i64 b).wf = true ∧ (Lit.int .i64 c).wf = true ∧ (Lit.int .i64 imm).wf = true) := by
  obtain ⟨cs, rfl, hsz⟩ := Go.WideShapes.okWide_struct Tryd.underlying54 hv
  obtain ⟨fuel, hf⟩ := h
  obtain ⟨xs, n, _, hx, hl, hlen, hfs⟩ := DataW.trod_struct Tryd.underlying54 hf
  have hc : Tryd.prog.cellsOf 54 = 5 := by kernel_rfl
  rw [hc] at hsz
  have hl5 : xs.length = 5 := hlen
  have key : ∀ (i : Nat) (f : Field), i < 5 → f.type = 3 → f.offset = i → (#[{ name := "Op", type := 3, offset := 0, embedded := false, tag := "", pkgPath := "", byteOffset := 0 }, { name := "A", type := 3, offset := 1, embedded := false, tag := "", pkgPath := "", byteOffset := 8 }, { name := "B", type := 3, offset := 2, embedded := false, tag := "", pkgPath := "", byteOffset := 16 }, { name := "C", type := 3, offset := 3, embedded := false, tag := "", pkgPath := "", byteOffset := 24 }, { name := "Imm", type := 3, offset := 4, embedded := false, tag := "", pkgPath := "", byteOffset := 32 }] : Array Field)[i]? = some f → ∃ x : Int, cs.toList[i]? = some (.int .i64 x) ∧ (Lit.int .i64 x).wf = true := by
    intro i f hi ht ho hf'
    have h1 := hfs i f hf'
    rw [ht, ho, c3, List.getElem?_eq_getElem (by omega)] at h1
    obtain ⟨x, e, _, w⟩ := DataW.trod_int Tryd.underlying3 h1
    have g := congrArg (·[0]?) e
    simp [Value.cells] at g
    exact ⟨x, by simpa using g, w⟩
  obtain ⟨x0, g0, w0⟩ := key 0 _ (by omega) rfl rfl rfl
  obtain ⟨x1, g1, w1⟩ := key 1 _ (by omega) rfl rfl rfl
  obtain ⟨x2, g2, w2⟩ := key 2 _ (by omega) rfl rfl rfl
  obtain ⟨x3, g3, w3⟩ := key 3 _ (by omega) rfl rfl rfl
  obtain ⟨x4, g4, w4⟩ := key 4 _ (by omega) rfl rfl rfl
  refine ⟨x0, x1, x2, x3, x4, ?_, w0, w1, w2, w3, w4⟩
  obtain ⟨l⟩ := cs
  have hl' : l.length = 5 := hsz
  match l, hl' with
  | [c0, c1, c2, c3, c4], _ =>
    simp at g0 g1 g2 g3 g4
    subst g0 g1 g2 g3 g4
    rfl

/-- An instruction's five cells stand at the head of a block. -/
def InsAt (w : World) (k : Nat) (op a b c imm : Int) : Prop :=
  w.cell? ⟨k, 0, none⟩ = some (.int .i64 op) ∧ w.cell? ⟨k, 1, none⟩ = some (.int .i64 a) ∧ w.cell? ⟨k, 2, none⟩ = some (.int .i64 b) ∧ w.cell? ⟨k, 3, none⟩ = some (.int .i64 c) ∧ w.cell? ⟨k, 4, none⟩ = some (.int .i64 imm)
theorem InsAt.later {w w' : World} {k : Nat} {op a b c imm : Int} (h : InsAt w k op a b c imm) (hb : Below w.heap.size w w') : InsAt w' k op a b c imm :=
  ⟨cell_later' h.1 hb, cell_later' h.2.1 hb, cell_later' h.2.2.1 hb, cell_later' h.2.2.2.1 hb, cell_later' h.2.2.2.2 hb⟩
theorem InsAt.new (w : World) (op a b c imm : Int) (t : TypeId) : InsAt (w.alloc (.cells (#[.int .i64 op, .int .i64 a, .int .i64 b, .int .i64 c, .int .i64 imm]) t)) w.heap.size op a b c imm :=
  ⟨new_cell' w _ _ 0 _ rfl, new_cell' w _ _ 1 _ rfl, new_cell' w _ _ 2 _ rfl, new_cell' w _ _ 3 _ rfl, new_cell' w _ _ 4 _ rfl⟩
theorem m3 : Tryd.prog.cellsOf 3 = 1 := by kernel_rfl
theorem m22 : Tryd.prog.cellsOf 23 = 1 := by kernel_rfl
/-- A memory that came in. -/
theorem open_mem {H : Type} {enc : TypeId × Value → H} {W : World} {r : Reach} {b0 base : Nat} {held : Bool} {v : Value} {d : DataW H} {p : List MemPlace}
    (hv : Value.okWide Tryd.prog W r b0 35 v) (h : DataW.Trod enc Tryd.prog W base (fun _ => true) held 35 v d p) :
    ∃ (wr : Int) (a : Option Addr) (len cap : Nat) (f : Nat → Int), v = .agg #[.int .i64 wr, .slice a len cap] ∧ ((Lit.int .i64 wr).wf = true ∧ len ≤ cap ∧ cap ≤ maxLen ∧ (a = none → cap = 0) ∧ Bytes W a len f) := by
  obtain ⟨cs, rfl, hsz⟩ := Go.WideShapes.okWide_struct Tryd.underlying35 hv
  obtain ⟨fuel, hf⟩ := h
  obtain ⟨xs, n, _, hx, hl, hlen, hfs⟩ := DataW.trod_struct Tryd.underlying35 hf
  have hc : Tryd.prog.cellsOf 35 = 2 := by kernel_rfl
  rw [hc] at hsz
  have hl2 : xs.length = 2 := hlen
  obtain ⟨l⟩ := cs
  have hl' : l.length = 2 := hsz
  match l, hl' with
  | [c0, c1], _ =>
    have h0 : DataW.trod enc Tryd.prog W base (fun _ => true) held n 3 (List.take (Tryd.prog.cellsOf 3) [c0, c1]) = xs[0]? := hfs 0 _ rfl
    have h1 : DataW.trod enc Tryd.prog W base (fun _ => true) held n 23 (List.take (Tryd.prog.cellsOf 23) [c1]) = xs[1]? := hfs 1 _ rfl
    rw [m3, List.getElem?_eq_getElem (by omega)] at h0
    rw [m22, List.getElem?_eq_getElem (by omega)] at h1
    obtain ⟨x, e, _, w⟩ := DataW.trod_int Tryd.underlying3 h0
    simp at e
    subst e
    rcases open_ints Tryd.underlying23 Tryd.underlying5 (by kernel_rfl) h1 with ⟨hcs, _⟩ | ⟨y, l, c, zs, hcs, _, hlc, hm, hz, _, hcell, hwz⟩
    · simp at hcs
      subst hcs
      obtain ⟨k0, k1, k3, f, k2⟩ := bytes_of_row (.inl ⟨rfl, rfl, rfl, rfl⟩ : IsRow .u8 W none 0 0 [])
      exact ⟨x, none, 0, 0, f, rfl, w, k0, k1, k3, k2⟩
    · simp at hcs
      subst hcs
      obtain ⟨k0, k1, k3, f, k2⟩ := bytes_of_row (.inr ⟨y, rfl, hlc, hm, by simpa using hz, hcell, hwz⟩ : IsRow .u8 W (some y) l c zs)
      exact ⟨x, some y, l, c, f, rfl, w, k0, k1, k3, k2⟩
theorem i25 : Tryd.prog.cellsOf 25 = 5 := by kernel_rfl
theorem i22 : Tryd.prog.cellsOf 22 = 1 := by kernel_rfl
/-- An image that came in. -/
theorem open_image {H : Type} {enc : TypeId × Value → H} {W : World} {r0 : Reach} {b0 base : Nat} {held : Bool} {v : Value} {d : DataW H} {p : List MemPlace}
    (hv : Value.okWide Tryd.prog W r0 b0 25 v) (h : DataW.Trod enc Tryd.prog W base (fun _ => true) held 25 v d p) :
    ∃ (ca : Option Addr) (cn cc : Nat) (cf : Nat → Int) (en : Int) (da : Option Addr) (dn dc : Nat) (df : Nat → Int) (wt mo : Int),
      v = .agg #[.slice ca cn cc, .int .i64 en, .slice da dn dc, .int .i64 wt, .int .i64 mo] ∧ ((cn ≤ cc ∧ cc ≤ maxLen ∧ (ca = none → cc = 0) ∧ RowK .u32 W ca cn cf) ∧ (Lit.int .i64 en).wf = true ∧ (dn ≤ dc ∧ dc ≤ maxLen ∧ (da = none → dc = 0) ∧ Bytes W da dn df) ∧ (Lit.int .i64 wt).wf = true ∧ (Lit.int .i64 mo).wf = true) := by
  obtain ⟨cs, rfl, hsz⟩ := Go.WideShapes.okWide_struct Tryd.underlying25 hv
  obtain ⟨fuel, hf⟩ := h
  obtain ⟨xs, n, _, hx, hl, hlen, hfs⟩ := DataW.trod_struct Tryd.underlying25 hf
  rw [i25] at hsz
  have hl5 : xs.length = 5 := hlen
  obtain ⟨l⟩ := cs
  have hl' : l.length = 5 := hsz
  match l, hl' with
  | [c0, c1, c2, c3, c4], _ =>
    have h0 : DataW.trod enc Tryd.prog W base (fun _ => true) held n 22 (List.take (Tryd.prog.cellsOf 22) [c0, c1, c2, c3, c4]) = xs[0]? := hfs 0 _ rfl
    have h1 : DataW.trod enc Tryd.prog W base (fun _ => true) held n 3 (List.take (Tryd.prog.cellsOf 3) [c1, c2, c3, c4]) = xs[1]? := hfs 1 _ rfl
    have h2 : DataW.trod enc Tryd.prog W base (fun _ => true) held n 23 (List.take (Tryd.prog.cellsOf 23) [c2, c3, c4]) = xs[2]? := hfs 2 _ rfl
    have h3 : DataW.trod enc Tryd.prog W base (fun _ => true) held n 3 (List.take (Tryd.prog.cellsOf 3) [c3, c4]) = xs[3]? := hfs 3 _ rfl
    have h4 : DataW.trod enc Tryd.prog W base (fun _ => true) held n 3 (List.take (Tryd.prog.cellsOf 3) [c4]) = xs[4]? := hfs 4 _ rfl
    rw [i22, List.getElem?_eq_getElem (by omega)] at h0
    rw [m3, List.getElem?_eq_getElem (by omega)] at h1 h3 h4
    rw [m22, List.getElem?_eq_getElem (by omega)] at h2
    obtain ⟨ca, cn, cc, cf, e0, hc⟩ := open_cell Tryd.underlying22 Tryd.underlying28 (by kernel_rfl) h0
    obtain ⟨da, dn, dc, df, e2, hd0, hd1, hd2, hd3⟩ := open_cell Tryd.underlying23 Tryd.underlying5 (by kernel_rfl) h2
    obtain ⟨x1, e1, _, w1⟩ := DataW.trod_int Tryd.underlying3 h1
    obtain ⟨x3, e3, _, w3⟩ := DataW.trod_int Tryd.underlying3 h3
    obtain ⟨x4, e4, _, w4⟩ := DataW.trod_int Tryd.underlying3 h4
    simp at e1 e3 e4
    subst e0 e1 e2 e3 e4
    exact ⟨ca, cn, cc, cf, x1, da, dn, dc, df, x3, x4, rfl, hc, w1, ⟨hd0, hd1, hd2, bytes_of_rowK hd3⟩, w3, w4⟩
/-- A state's value. -/
abbrev stateV (at_ : Int) (r : Nat → Int) (ba : Option Addr) (bn bc : Nat) (wt : Int) (ma : Option Addr) (mn mc : Nat) (ia : Option Addr) (in_ ic : Nat) (oa : Option Addr) (on_ oc : Nat) (en : Bool) (cd ft : Int) : Value :=
  .agg #[.int .i64 at_, .int .u32 (r 0), .int .u32 (r 1), .int .u32 (r 2), .int .u32 (r 3), .int .u32 (r 4), .int .u32 (r 5), .int .u32 (r 6), .int .u32 (r 7), .int .u32 (r 8), .int .u32 (r 9), .int .u32 (r 10), .int .u32 (r 11), .int .u32 (r 12), .int .u32 (r 13), .int .u32 (r 14), .int .u32 (r 15), .slice ba bn bc, .int .i64 wt, .slice ma mn mc, .slice ia in_ ic, .slice oa on_ oc, .bool en, .int .u32 cd, .int .i64 ft]
theorem s27 : Tryd.prog.cellsOf 32 = 16 := by kernel_rfl
theorem s28 : Tryd.prog.cellsOf 33 = 1 := by kernel_rfl
theorem s30 : Tryd.prog.cellsOf 35 = 2 := by kernel_rfl
theorem s26 : Tryd.prog.cellsOf 28 = 1 := by kernel_rfl
theorem s4 : Tryd.prog.cellsOf 4 = 1 := by kernel_rfl
theorem s32 : Tryd.prog.cellsOf 37 = 25 := by kernel_rfl
set_option maxHeartbeats 1000000 in
theorem open_state {H : Type} {enc : TypeId × Value → H} {W : World} {r0 : Reach} {b0 base : Nat} {held : Bool} {v : Value} {d : DataW H} {p : List MemPlace}
    (hv : Value.okWide Tryd.prog W r0 b0 37 v) (h : DataW.Trod enc Tryd.prog W base (fun _ => true) held 37 v d p) :
    ∃ (at_ : Int) (r : Nat → Int) (ba : Option Addr) (bn bc : Nat) (bf : Nat → Int) (wt : Int) (ma : Option Addr) (mn mc : Nat) (mf : Nat → Int) (ia : Option Addr) (in_ ic : Nat) (inf : Nat → Int) (oa : Option Addr) (on_ oc : Nat) (of_ : Nat → Int) (en : Bool) (cd ft : Int),
      v = stateV at_ r ba bn bc wt ma mn mc ia in_ ic oa on_ oc en cd ft ∧ (Lit.int .i64 at_).wf = true ∧ (∀ j, (Lit.int .u32 (r j)).wf = true) ∧ (bn ≤ bc ∧ bc ≤ maxLen ∧ (ba = none → bc = 0) ∧ RowK .i64 W ba bn bf) ∧ (Lit.int .i64 wt).wf = true ∧ (mn ≤ mc ∧ mc ≤ maxLen ∧ (ma = none → mc = 0) ∧ Bytes W ma mn mf) ∧
      (in_ ≤ ic ∧ ic ≤ maxLen ∧ (ia = none → ic = 0) ∧ Bytes W ia in_ inf) ∧ (on_ ≤ oc ∧ oc ≤ maxLen ∧ (oa = none → oc = 0) ∧ Bytes W oa on_ of_) ∧ (Lit.int .u32 cd).wf = true ∧ (Lit.int .i64 ft).wf = true := by
  obtain ⟨cs, rfl, hsz⟩ := Go.WideShapes.okWide_struct Tryd.underlying37 hv
  obtain ⟨fuel, hf⟩ := h
  obtain ⟨xs, n, _, hx, hl, hlen, hfs⟩ := DataW.trod_struct Tryd.underlying37 hf
  rw [s32] at hsz
  have hl9 : xs.length = 9 := hlen
  obtain ⟨l⟩ := cs
  have hl' : l.length = 25 := hsz
  match l, hl' with
  | [c0, c1, c2, c3, c4, c5, c6, c7, c8, c9, c10, c11, c12, c13, c14, c15, c16, c17, c18, c19, c20, c21, c22, c23, c24], _ =>
    have h0 : DataW.trod enc Tryd.prog W base (fun _ => true) held n 3 (List.take (Tryd.prog.cellsOf 3) [c0, c1, c2, c3, c4, c5, c6, c7, c8, c9, c10, c11, c12, c13, c14, c15, c16, c17, c18, c19, c20, c21, c22, c23, c24]) = xs[0]? := hfs 0 _ rfl
    have h1 : DataW.trod enc Tryd.prog W base (fun _ => true) held n 32 (List.take (Tryd.prog.cellsOf 32) [c1, c2, c3, c4, c5, c6, c7, c8, c9, c10, c11, c12, c13, c14, c15, c16, c17, c18, c19, c20, c21, c22, c23, c24]) = xs[1]? := hfs 1 _ rfl
    have h2 : DataW.trod enc Tryd.prog W base (fun _ => true) held n 33 (List.take (Tryd.prog.cellsOf 33) [c17, c18, c19, c20, c21, c22, c23, c24]) = xs[2]? := hfs 2 _ rfl
    have h3 : DataW.trod enc Tryd.prog W base (fun _ => true) held n 35 (List.take (Tryd.prog.cellsOf 35) [c18, c19, c20, c21, c22, c23, c24]) = xs[3]? := hfs 3 _ rfl
    have h4 : DataW.trod enc Tryd.prog W base (fun _ => true) held n 23 (List.take (Tryd.prog.cellsOf 23) [c20, c21, c22, c23, c24]) = xs[4]? := hfs 4 _ rfl
    have h5 : DataW.trod enc Tryd.prog W base (fun _ => true) held n 23 (List.take (Tryd.prog.cellsOf 23) [c21, c22, c23, c24]) = xs[5]? := hfs 5 _ rfl
    have h6 : DataW.trod enc Tryd.prog W base (fun _ => true) held n 4 (List.take (Tryd.prog.cellsOf 4) [c22, c23, c24]) = xs[6]? := hfs 6 _ rfl
    have h7 : DataW.trod enc Tryd.prog W base (fun _ => true) held n 28 (List.take (Tryd.prog.cellsOf 28) [c23, c24]) = xs[7]? := hfs 7 _ rfl
    have h8 : DataW.trod enc Tryd.prog W base (fun _ => true) held n 3 (List.take (Tryd.prog.cellsOf 3) [c24]) = xs[8]? := hfs 8 _ rfl
    rw [m3, List.getElem?_eq_getElem (by omega)] at h0 h8
    rw [s27, List.getElem?_eq_getElem (by omega)] at h1
    rw [s28, List.getElem?_eq_getElem (by omega)] at h2
    rw [s30, List.getElem?_eq_getElem (by omega)] at h3
    rw [m22, List.getElem?_eq_getElem (by omega)] at h4 h5
    rw [s4, List.getElem?_eq_getElem (by omega)] at h6
    rw [s26, List.getElem?_eq_getElem (by omega)] at h7
    obtain ⟨x0, e0, _, w0⟩ := DataW.trod_int Tryd.underlying3 h0
    obtain ⟨x8, e8, _, w8⟩ := DataW.trod_int Tryd.underlying3 h8
    obtain ⟨x7, e7, _, w7⟩ := DataW.trod_int Tryd.underlying28 h7
    obtain ⟨x6, e6, _⟩ := DataW.trod_bool Tryd.underlying4 h6
    obtain ⟨ba, bn, bc, bf, e2, hb⟩ := open_cell Tryd.underlying33 Tryd.underlying3 m3 h2
    obtain ⟨ia, in_, ic, inf, e4, hi0, hi1, hi2, hi3⟩ := open_cell Tryd.underlying23 Tryd.underlying5 (by kernel_rfl) h4
    obtain ⟨oa, on_, oc, of_, e5, ho0, ho1, ho2, ho3⟩ := open_cell Tryd.underlying23 Tryd.underlying5 (by kernel_rfl) h5
    obtain ⟨ys, m, _, _, hyl, hyfs⟩ : ∃ (ys : List (DataW H × List MemPlace)) (m : Nat), n = m + 1 ∧ True ∧ ys.length = 2 ∧ ∀ (i : Nat) (f : Field), (#[{ name := "Write", type := 3, offset := 0, embedded := false, tag := "", pkgPath := "", byteOffset := 0 }, { name := "Bytes", type := 23, offset := 1, embedded := false, tag := "", pkgPath := "", byteOffset := 8 }] : Array Field)[i]? = some f → DataW.trod enc Tryd.prog W base (fun _ => true) held m f.type (([c18, c19].drop f.offset).take (Tryd.prog.cellsOf f.type)) = ys[i]? := by
      obtain ⟨ys, m, a1, a2, a3, a4, a5⟩ := DataW.trod_struct Tryd.underlying35 h3
      exact ⟨ys, m, a1, trivial, a4, a5⟩
    have g0 : DataW.trod enc Tryd.prog W base (fun _ => true) held m 3 (List.take (Tryd.prog.cellsOf 3) [c18, c19]) = ys[0]? := hyfs 0 _ rfl
    have g1 : DataW.trod enc Tryd.prog W base (fun _ => true) held m 23 (List.take (Tryd.prog.cellsOf 23) [c19]) = ys[1]? := hyfs 1 _ rfl
    rw [m3, List.getElem?_eq_getElem (by omega)] at g0
    rw [m22, List.getElem?_eq_getElem (by omega)] at g1
    obtain ⟨y0, f0, _, v0⟩ := DataW.trod_int Tryd.underlying3 g0
    obtain ⟨ma, mn, mc, mf, f1, hm0, hm1, hm2, hm3⟩ := open_cell Tryd.underlying23 Tryd.underlying5 (by kernel_rfl) g1
    obtain ⟨zs, q, _, _, hzl, hzn, hel⟩ := DataW.trod_array Tryd.underlying32 h1
    have hr : ∀ k, k < 16 → ∃ x, [c1, c2, c3, c4, c5, c6, c7, c8, c9, c10, c11, c12, c13, c14, c15, c16][k]? = some (.int .u32 x) ∧ (Lit.int .u32 x).wf = true := by
      intro k hk
      have hk' := hel k hk
      rw [s26, Nat.mul_one, List.getElem?_eq_getElem (by omega)] at hk'
      obtain ⟨x, e, _, w⟩ := DataW.trod_int Tryd.underlying28 hk'
      refine ⟨x, ?_, w⟩
      have g := congrArg (·[0]?) e
      simp only [List.getElem?_take, List.getElem?_drop, Nat.add_zero] at g
      rw [if_pos (by omega), if_pos hk] at g
      rcases (by omega : k = 0 ∨ k = 1 ∨ k = 2 ∨ k = 3 ∨ k = 4 ∨ k = 5 ∨ k = 6 ∨ k = 7 ∨ k = 8 ∨ k = 9 ∨ k = 10 ∨ k = 11 ∨ k = 12 ∨ k = 13 ∨ k = 14 ∨ k = 15) with rfl | rfl | rfl | rfl | rfl | rfl | rfl | rfl | rfl | rfl | rfl | rfl | rfl | rfl | rfl | rfl <;> exact g
    obtain ⟨r, hR, hW⟩ : ∃ r : Nat → Int, (∀ k, k < 16 → [c1, c2, c3, c4, c5, c6, c7, c8, c9, c10, c11, c12, c13, c14, c15, c16][k]? = some (.int .u32 (r k))) ∧ ∀ j, (Lit.int .u32 (r j)).wf = true := by
      refine ⟨fun k => if h : k < 16 then (hr k h).choose else 0, fun k hk => ?_, fun j => ?_⟩
      · simp only [dif_pos hk]; exact (hr k hk).choose_spec.1
      · by_cases hj : j < 16
        · simp only [dif_pos hj]; exact (hr j hj).choose_spec.2
        · simp only [dif_neg hj]; exact wf_zero .u32
    have t0 := hR 0 (by omega); have t1 := hR 1 (by omega); have t2 := hR 2 (by omega); have t3 := hR 3 (by omega)
    have t4 := hR 4 (by omega); have t5 := hR 5 (by omega); have t6 := hR 6 (by omega); have t7 := hR 7 (by omega)
    have t8 := hR 8 (by omega); have t9 := hR 9 (by omega); have t10 := hR 10 (by omega); have t11 := hR 11 (by omega)
    have t12 := hR 12 (by omega); have t13 := hR 13 (by omega); have t14 := hR 14 (by omega); have t15 := hR 15 (by omega)
    simp at e0 e8 e7 e6 f0 t0 t1 t2 t3 t4 t5 t6 t7 t8 t9 t10 t11 t12 t13 t14 t15
    subst e0 e8 e7 e6 f0 e2 e4 e5 f1 t0 t1 t2 t3 t4 t5 t6 t7 t8 t9 t10 t11 t12 t13 t14 t15
    exact ⟨x0, r, ba, bn, bc, bf, y0, ma, mn, mc, mf, ia, in_, ic, inf, oa, on_, oc, of_, x6, x7, x8, rfl, w0, hW, hb, v0, ⟨hm0, hm1, hm2, bytes_of_rowK hm3⟩, ⟨hi0, hi1, hi2, bytes_of_rowK hi3⟩, ⟨ho0, ho1, ho2, bytes_of_rowK ho3⟩, w7, w8⟩
end Go.Proofs.YtnpejnjigaalfaaDoor
