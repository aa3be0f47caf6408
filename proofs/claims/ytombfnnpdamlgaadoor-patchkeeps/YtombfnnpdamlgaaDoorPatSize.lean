/- What came in, with its size: a program's functions are no more than a machine's memory holds. No condition. -/
import Derived.Test.YtombfnnpdamlgaaDoorPatFrame
namespace Go.Proofs.YtombfnnpdamlgaaDoor
open Go.ChangeShapes Go.WideShapes Go.ChangeAt Go.RowKit
set_option linter.unusedVariables false
set_option linter.unusedSimpArgs false
set_option maxRecDepth 100000
/-- A program that came in, with its list of functions' bound. -/
theorem open_progS {H : Type} {enc : TypeId × Value → H} {W : World} {r : Reach} {b0 base : Nat} {sp : Nat → Bool} {held : Bool} {v : Value} {d : DataW H} {p : List MemPlace}
    (hv : Value.okWide Tryd.prog W r b0 25 v) (h : DataW.Trod enc Tryd.prog W base sp held 25 v d p) : ∃ o : ProgM, IsProg Any8 W v o ∧ ((DataW.weightsEach Tryd.prog [25] [d]).all (fun x => decide (x ≤ reachBytes)) = true → o.funcs.length * 72 ≤ 140737488351232) := by
  obtain ⟨cs, rfl, hsz⟩ := Go.WideShapes.okWide_struct Tryd.underlying25 hv
  obtain ⟨fuel, hf⟩ := h
  obtain ⟨xs, n, _, hx, hl, hlen, hfs⟩ := DataW.trod_struct Tryd.underlying25 hf
  have hc : Tryd.prog.cellsOf 25 = 3 := by kernel_rfl
  rw [hc] at hsz
  have hl2 : xs.length = 3 := hlen
  obtain ⟨l⟩ := cs
  have hl' : l.length = 3 := hsz
  match xs, hl2, l, hl' with
  | [z0, z1, z2], _, [c0, c1, c2], _ =>
    have h0 : DataW.trod enc Tryd.prog W base sp held n 22 (List.take (Tryd.prog.cellsOf 22) [c0, c1, c2]) = some z0 := hfs 0 _ rfl
    have h1 : DataW.trod enc Tryd.prog W base sp held n 23 (List.take (Tryd.prog.cellsOf 23) [c1, c2]) = some z1 := hfs 1 _ rfl
    have h2 : DataW.trod enc Tryd.prog W base sp held n 3 (List.take (Tryd.prog.cellsOf 3) [c2]) = some z2 := hfs 2 _ rfl
    rw [k_pfs] at h0
    rw [k_pds] at h1
    rw [k_int] at h2
    obtain ⟨v0, l0, e0, q0⟩ := open_pfs h0
    obtain ⟨v1, l1, e1, q1⟩ := open_pds h1
    obtain ⟨x2, e2, _, _⟩ := DataW.trod_int Tryd.underlying3 h2
    simp at e0 e1 e2
    subst e0 e1 e2
    refine ⟨⟨l0, l1, x2⟩, ⟨_, _, rfl, q0, q1⟩, fun hw => ?_⟩
    show l0.length * 72 ≤ 140737488351232
    rcases DataW.trod_slice Tryd.underlying22 h0 with ⟨hcs, _⟩ | ⟨a', len', cap', elems, rest, n', _, hcs, hz, _, _, _, hlen', _, _, _⟩
    · obtain ⟨a, c, e, -⟩ := q0
      simp at hcs
      rw [hcs] at e
      injection e with e1 e2 e3
      omega
    · obtain ⟨a, c, e, -⟩ := q0
      simp at hcs
      rw [hcs] at e
      injection e with e1 e2 e3
      have hd : d = .agg [z0.1, z1.1, z2.1] := by injection hx
      have hb : Tryd.prog.bytesOf 44 = 72 := by kernel_rfl
      rw [hd, hz] at hw
      simp only [DataW.weightsEach, DataW.weights, Tryd.underlying25, Tryd.underlying22, List.map_cons, List.map_nil, List.cons_append, List.all_cons, Bool.and_eq_true, decide_eq_true_eq, hb, List.length_map] at hw
      have h1 := hw.1
      unfold reachBytes at h1
      omega
end Go.Proofs.YtombfnnpdamlgaaDoor
