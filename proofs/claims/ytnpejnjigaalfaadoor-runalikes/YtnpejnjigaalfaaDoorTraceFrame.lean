/- A trace that came in, opened. -/
import Derived.Test.YtnpejnjigaalfaaDoorFrame
namespace Go.Proofs.YtnpejnjigaalfaaDoor
open Go.ChangeShapes Go.WideShapes Go.ChangeAt Go.RowKit
set_option linter.unusedVariables false
set_option maxRecDepth 100000
theorem t30 : Tryd.prog.cellsOf 30 = 6 := by kernel_rfl
/-- A trace that came in. -/
theorem open_trace {H : Type} {enc : TypeId × Value → H} {W : World} {r0 : Reach} {b0 base : Nat} {held : Bool} {v : Value} {d : DataW H} {p : List MemPlace}
    (hv : Value.okWide Tryd.prog W r0 b0 30 v) (h : DataW.Trod enc Tryd.prog W base (fun _ => true) held 30 v d p) :
    ∃ (oa : Option Addr) (on_ oc : Nat) (of_ : Nat → Int) (en : Bool) (cd ft : Int) (ma : Option Addr) (mn mc : Nat) (mf : Nat → Int) (st : Int),
      v = .agg #[.slice oa on_ oc, .bool en, .int .u32 cd, .int .i64 ft, .slice ma mn mc, .int .i64 st] ∧ (on_ ≤ oc ∧ oc ≤ maxLen ∧ (oa = none → oc = 0) ∧ Bytes W oa on_ of_) ∧ (mn ≤ mc ∧ mc ≤ maxLen ∧ (ma = none → mc = 0) ∧ Bytes W ma mn mf) := by
  obtain ⟨cs, rfl, hsz⟩ := Go.WideShapes.okWide_struct Tryd.underlying30 hv
  obtain ⟨fuel, hf⟩ := h
  obtain ⟨xs, n, _, hx, hl, hlen, hfs⟩ := DataW.trod_struct Tryd.underlying30 hf
  rw [t30] at hsz
  have hl6 : xs.length = 6 := hlen
  obtain ⟨l⟩ := cs
  have hl' : l.length = 6 := hsz
  match l, hl' with
  | [c0, c1, c2, c3, c4, c5], _ =>
    have h0 : DataW.trod enc Tryd.prog W base (fun _ => true) held n 23 (List.take (Tryd.prog.cellsOf 23) [c0, c1, c2, c3, c4, c5]) = xs[0]? := hfs 0 _ rfl
    have h1 : DataW.trod enc Tryd.prog W base (fun _ => true) held n 4 (List.take (Tryd.prog.cellsOf 4) [c1, c2, c3, c4, c5]) = xs[1]? := hfs 1 _ rfl
    have h2 : DataW.trod enc Tryd.prog W base (fun _ => true) held n 28 (List.take (Tryd.prog.cellsOf 28) [c2, c3, c4, c5]) = xs[2]? := hfs 2 _ rfl
    have h3 : DataW.trod enc Tryd.prog W base (fun _ => true) held n 3 (List.take (Tryd.prog.cellsOf 3) [c3, c4, c5]) = xs[3]? := hfs 3 _ rfl
    have h4 : DataW.trod enc Tryd.prog W base (fun _ => true) held n 23 (List.take (Tryd.prog.cellsOf 23) [c4, c5]) = xs[4]? := hfs 4 _ rfl
    have h5 : DataW.trod enc Tryd.prog W base (fun _ => true) held n 3 (List.take (Tryd.prog.cellsOf 3) [c5]) = xs[5]? := hfs 5 _ rfl
    rw [m22, List.getElem?_eq_getElem (by omega)] at h0 h4
    rw [s4, List.getElem?_eq_getElem (by omega)] at h1
    rw [s26, List.getElem?_eq_getElem (by omega)] at h2
    rw [m3, List.getElem?_eq_getElem (by omega)] at h3 h5
    obtain ⟨oa, on_, oc, of_, e0, ho0, ho1, ho2, ho3⟩ := open_cell Tryd.underlying23 Tryd.underlying5 (by kernel_rfl) h0
    obtain ⟨ma, mn, mc, mf, e4, hm0, hm1, hm2, hm3⟩ := open_cell Tryd.underlying23 Tryd.underlying5 (by kernel_rfl) h4
    obtain ⟨x1, e1, _⟩ := DataW.trod_bool Tryd.underlying4 h1
    obtain ⟨x2, e2, _, w2⟩ := DataW.trod_int Tryd.underlying28 h2
    obtain ⟨x3, e3, _, w3⟩ := DataW.trod_int Tryd.underlying3 h3
    obtain ⟨x5, e5, _, w5⟩ := DataW.trod_int Tryd.underlying3 h5
    simp at e1 e2 e3 e5
    subst e0 e1 e2 e3 e4 e5
    exact ⟨oa, on_, oc, of_, x1, x2, x3, ma, mn, mc, mf, x5, rfl, ⟨ho0, ho1, ho2, bytes_of_rowK ho3⟩, ⟨hm0, hm1, hm2, bytes_of_rowK hm3⟩⟩
end Go.Proofs.YtnpejnjigaalfaaDoor
