/- What came in: functions and data. -/
import Derived.Test.YtnejpldbokodaaaDoorObjFrame
import Derived.Test.YtnejpldbokodaaaDoorObjRt1
import Derived.Test.YtnejpldbokodaaaDoorDoorFrame
namespace Go.Proofs.YtnejpldbokodaaaDoor
open Go.ChangeShapes Go.WideShapes Go.ChangeAt Go.RowKit
set_option linter.unusedVariables false
set_option linter.unusedSimpArgs false
set_option maxRecDepth 100000
/-- A function that came in. -/
theorem open_func {H : Type} {enc : TypeId × Value → H} {W : World} {r : Reach} {b0 base : Nat} {sp : Nat → Bool} {held : Bool} {v : Value} {d : DataW H} {p : List MemPlace}
    (hv : Value.okWide Tryd.prog W r b0 32 v) (h : DataW.Trod enc Tryd.prog W base sp held 32 v d p) : ∃ f : FuncM, FuncV (fun _ => True) W v f := by
  obtain ⟨cs, rfl, hsz⟩ := Go.WideShapes.okWide_struct Tryd.underlying32 hv
  obtain ⟨fuel, hf⟩ := h
  obtain ⟨xs, n, _, hx, hl, hlen, hfs⟩ := DataW.trod_struct Tryd.underlying32 hf
  have hc : Tryd.prog.cellsOf 32 = 4 := by kernel_rfl
  rw [hc] at hsz
  have hl2 : xs.length = 4 := hlen
  obtain ⟨l⟩ := cs
  have hl' : l.length = 4 := hsz
  match l, hl' with
  | [c0, c1, c2, c3], _ =>
    have h0 : DataW.trod enc Tryd.prog W base sp held n 9 (List.take (Tryd.prog.cellsOf 9) [c0, c1, c2, c3]) = xs[0]? := hfs 0 _ rfl
    have h1 : DataW.trod enc Tryd.prog W base sp held n 3 (List.take (Tryd.prog.cellsOf 3) [c1, c2, c3]) = xs[1]? := hfs 1 _ rfl
    have h2 : DataW.trod enc Tryd.prog W base sp held n 30 (List.take (Tryd.prog.cellsOf 30) [c2, c3]) = xs[2]? := hfs 2 _ rfl
    have h3 : DataW.trod enc Tryd.prog W base sp held n 23 (List.take (Tryd.prog.cellsOf 23) [c3]) = xs[3]? := hfs 3 _ rfl
    rw [List.getElem?_eq_getElem (by omega)] at h0 h1 h2 h3
    rw [c_str] at h0
    rw [c_int] at h1
    rw [c_words] at h2
    rw [c_rels] at h3
    obtain ⟨x0, e0, _, hs⟩ := DataW.trod_string Tryd.underlying9 h0
    obtain ⟨x1, e1, _, _⟩ := DataW.trod_int Tryd.underlying3 h1
    obtain ⟨v2, l2, e2, hw⟩ := open_words9 h2
    obtain ⟨v3, l3, e3, hr⟩ := open_rels9 h3
    simp at e0 e1 e2 e3
    subst e0 e1 e2 e3
    exact ⟨⟨x0, x1, l2, l3⟩, _, _, rfl, hw, hr, hs⟩
/-- Data that came in. -/
theorem open_data {H : Type} {enc : TypeId × Value → H} {W : World} {r : Reach} {b0 base : Nat} {sp : Nat → Bool} {held : Bool} {v : Value} {d : DataW H} {p : List MemPlace}
    (hv : Value.okWide Tryd.prog W r b0 25 v) (h : DataW.Trod enc Tryd.prog W base sp held 25 v d p) : ∃ f : DataM, DataV (fun _ => True) W v f := by
  obtain ⟨cs, rfl, hsz⟩ := Go.WideShapes.okWide_struct Tryd.underlying25 hv
  obtain ⟨fuel, hf⟩ := h
  obtain ⟨xs, n, _, hx, hl, hlen, hfs⟩ := DataW.trod_struct Tryd.underlying25 hf
  have hc : Tryd.prog.cellsOf 25 = 7 := by kernel_rfl
  rw [hc] at hsz
  have hl2 : xs.length = 7 := hlen
  obtain ⟨l⟩ := cs
  have hl' : l.length = 7 := hsz
  match l, hl' with
  | [c0, c1, c2, c3, c4, c5, c6], _ =>
    have h0 : DataW.trod enc Tryd.prog W base sp held n 9 (List.take (Tryd.prog.cellsOf 9) [c0, c1, c2, c3, c4, c5, c6]) = xs[0]? := hfs 0 _ rfl
    have h1 : DataW.trod enc Tryd.prog W base sp held n 3 (List.take (Tryd.prog.cellsOf 3) [c1, c2, c3, c4, c5, c6]) = xs[1]? := hfs 1 _ rfl
    have h2 : DataW.trod enc Tryd.prog W base sp held n 3 (List.take (Tryd.prog.cellsOf 3) [c2, c3, c4, c5, c6]) = xs[2]? := hfs 2 _ rfl
    have h3 : DataW.trod enc Tryd.prog W base sp held n 4 (List.take (Tryd.prog.cellsOf 4) [c3, c4, c5, c6]) = xs[3]? := hfs 3 _ rfl
    have h4 : DataW.trod enc Tryd.prog W base sp held n 3 (List.take (Tryd.prog.cellsOf 3) [c4, c5, c6]) = xs[4]? := hfs 4 _ rfl
    have h5 : DataW.trod enc Tryd.prog W base sp held n 22 (List.take (Tryd.prog.cellsOf 22) [c5, c6]) = xs[5]? := hfs 5 _ rfl
    have h6 : DataW.trod enc Tryd.prog W base sp held n 23 (List.take (Tryd.prog.cellsOf 23) [c6]) = xs[6]? := hfs 6 _ rfl
    rw [List.getElem?_eq_getElem (by omega)] at h0 h1 h2 h3 h4 h5 h6
    rw [c_str] at h0
    rw [c_int] at h1 h2 h4
    rw [c_bool] at h3
    rw [c_bytes] at h5
    rw [c_rels] at h6
    obtain ⟨x0, e0, _, hs⟩ := DataW.trod_string Tryd.underlying9 h0
    obtain ⟨x1, e1, _, _⟩ := DataW.trod_int Tryd.underlying3 h1
    obtain ⟨x2, e2, _, _⟩ := DataW.trod_int Tryd.underlying3 h2
    obtain ⟨x3, e3, _⟩ := DataW.trod_bool Tryd.underlying4 h3
    obtain ⟨x4, e4, _, _⟩ := DataW.trod_int Tryd.underlying3 h4
    obtain ⟨v5, l5, e5, hb⟩ := open_bytes9 h5
    obtain ⟨v6, l6, e6, hr⟩ := open_rels9 h6
    simp at e0 e1 e2 e3 e4 e5 e6
    subst e0 e1 e2 e3 e4 e5 e6
    exact ⟨⟨x0, x1, x2, x3, x4, l5, l6⟩, _, _, rfl, hb, hr, hs⟩
end Go.Proofs.YtnejpldbokodaaaDoor
