/- What the laid table's datum gives the walks of a seat whose code reads it, and its witness. What came in: functions and data. What came in: a list of objects. -/
import Derived.Test.YteakbpcmafdikaaGreatDoorNmCode
import Derived.Test.YteakbpcmafdikaaGreatDoorNmBase
import Derived.Test.YteakbpcmafdikaaGreatDoorTie
import Derived.Test.YteakbpcmafdikaaGreatDoorCards
import Derived.LaidMore
import Derived.OpenShut
import Derived.ShutString
import Derived.ChangeOld
import Derived.Stop.Joined
import Derived.Deep.Strs
import Derived.Lib.SmallJoins
import Derived.SevenTiedAt
import Derived.Test.YteakbpcmafdikaaGreatDoorObjFrame
import Derived.Test.YteakbpcmafdikaaGreatDoorObjRt1
import Derived.Test.YteakbpcmafdikaaGreatDoorNamRef
namespace Go.Proofs.YteakbpcmafdikaaGreatDoor
open Go.ChangeShapes Go.WideShapes Go.ChangeAt Go.RowKit Go.Deep
set_option linter.unusedVariables false

def laidL : List (String × DataW Unit) := [("splice/code.shapes", Rows.laid_splice_code_shapes)]
theorem gShapes : Tryz.prog.globalNamed "splice/code.shapes" = some 0 := by kernel_rfl
theorem tShapes : (Tryz.prog.globals[0]?).map (·.type) = some 213 := by kernel_rfl

/-- The door's own heap meets the condition: three closed facts. -/
theorem door_met (os : Os) (args : Array Value) : laidMetH Tryz.prog laidL ((World.doorLaid Tryz.prog 40 os).forCall (fun _ _ => 0) ⟨#[], args, []⟩).memory :=
  laidMetH_of_parts3 (fuel := 8) (laidMet_of_run' 8 (by kernel_rfl) (by kernel_rfl)) (by kernel_rfl) (by kernel_rfl)

def rowD (k : Nat) : DataW Unit := .agg [.lit (.int .i64 (regsOf k)), .lit (.int .i64 (widthOf k)), .lit (.bool (signedOf k))]
theorem laid_rows : (Rows.laid_splice_code_shapes : DataW Unit) = .agg ((List.range 26).map rowD) := by kernel_rfl
theorem c3' : Tryz.prog.cellsOf 3 = 1 := by kernel_rfl
theorem c48 : Tryz.prog.cellsOf 212 = 3 := by kernel_rfl
theorem c4' : Tryz.prog.cellsOf 4 = 1 := by kernel_rfl

theorem tab_of {W : World} (h : laidMetH Tryz.prog laidL W) : Tab W := by
  unfold laidL at h
  rw [MakeChecks.laidMetH_plain _ _ _ (by kernel_rfl)] at h
  obtain ⟨ps, ⟨g0, t0, cs0, f0, p0, q0, hg0, ht0, hv0, hd0, _, _⟩, _, _⟩ := h
  obtain rfl := Option.some.inj (gShapes.symm.trans hg0)
  obtain rfl := Option.some.inj (tShapes.symm.trans ht0)
  rw [laid_rows] at hd0
  obtain ⟨xs, m, rfl, hx, hlen, hn, hel⟩ := DataW.trod_array Tryz.underlying213 hd0
  simp only [Prod.mk.injEq, DataW.agg.injEq] at hx
  intro k hk
  have hxk : (xs.map (·.1))[k]? = some (rowD k) := by rw [← hx.1]; simp [hk]
  have hk' := hel k hk
  rw [c48] at hk'
  obtain ⟨y, hy, hyd⟩ : ∃ y, xs[k]? = some y ∧ y.1 = rowD k := by
    rw [List.getElem?_map, Option.map_eq_some_iff] at hxk
    obtain ⟨y, h1, h2⟩ := hxk; exact ⟨y, h1, h2⟩
  rw [hy] at hk'
  obtain ⟨y0, y1, y2, n, hy', _, r0, r1, r2⟩ := trod_struct3 Tryz.underlying212 hk'
  rw [hy'] at hyd
  simp only [rowD, DataW.agg.injEq, List.cons.injEq, and_true] at hyd
  obtain ⟨d0, d1, d2⟩ := hyd
  obtain ⟨a0, e0, v0, _⟩ := DataW.trod_int Tryz.underlying3 r0
  obtain ⟨a1, e1, v1, _⟩ := DataW.trod_int Tryz.underlying3 r1
  obtain ⟨a2, e2, v2⟩ := DataW.trod_bool Tryz.underlying4 r2
  rw [v0] at d0; rw [v1] at d1; rw [v2] at d2
  simp only [DataW.lit.injEq, Lit.int.injEq, Lit.bool.injEq, true_and] at d0 d1 d2
  subst d0 d1 d2
  simp only [c3', c4'] at e0 e1 e2
  have g0 := congrArg (·[0]?) e0
  have g1 := congrArg (·[0]?) e1
  have g2 := congrArg (·[0]?) e2
  simp at g0 g1 g2
  have q0 := World.var?_cell hg0 hv0 (k * 3)
  have q1 := World.var?_cell hg0 hv0 (k * 3 + 1)
  have q2 := World.var?_cell hg0 hv0 (k * 3 + 2)
  refine ⟨?_, ?_, ?_⟩
  · rw [q0]; exact g0
  · rw [q1]; exact g1
  · rw [q2]; exact g2
open Go.ChangeShapes Go.WideShapes Go.ChangeAt Go.RowKit
set_option linter.unusedVariables false
set_option linter.unusedSimpArgs false
set_option maxRecDepth 100000
/-- A function that came in. -/
theorem open_func {H : Type} {enc : TypeId × Value → H} {W : World} {r : Reach} {b0 base : Nat} {sp : Nat → Bool} {held : Bool} {v : Value} {d : DataW H} {p : List MemPlace}
    (hv : Value.okWide Tryz.prog W r b0 50 v) (h : DataW.Trod enc Tryz.prog W base sp held 50 v d p) : ∃ f : FuncM, FuncV (fun _ => True) W v f := by
  obtain ⟨cs, rfl, hsz⟩ := Go.WideShapes.okWide_struct Tryz.underlying50 hv
  obtain ⟨fuel, hf⟩ := h
  obtain ⟨xs, n, _, hx, hl, hlen, hfs⟩ := DataW.trod_struct Tryz.underlying50 hf
  have hc : Tryz.prog.cellsOf 50 = 4 := by kernel_rfl
  rw [hc] at hsz
  have hl2 : xs.length = 4 := hlen
  obtain ⟨l⟩ := cs
  have hl' : l.length = 4 := hsz
  match l, hl' with
  | [c0, c1, c2, c3], _ =>
    have h0 : DataW.trod enc Tryz.prog W base sp held n 9 (List.take (Tryz.prog.cellsOf 9) [c0, c1, c2, c3]) = xs[0]? := hfs 0 _ rfl
    have h1 : DataW.trod enc Tryz.prog W base sp held n 3 (List.take (Tryz.prog.cellsOf 3) [c1, c2, c3]) = xs[1]? := hfs 1 _ rfl
    have h2 : DataW.trod enc Tryz.prog W base sp held n 33 (List.take (Tryz.prog.cellsOf 33) [c2, c3]) = xs[2]? := hfs 2 _ rfl
    have h3 : DataW.trod enc Tryz.prog W base sp held n 48 (List.take (Tryz.prog.cellsOf 48) [c3]) = xs[3]? := hfs 3 _ rfl
    rw [List.getElem?_eq_getElem (by omega)] at h0 h1 h2 h3
    rw [c_str] at h0
    rw [c_int] at h1
    rw [c_words] at h2
    rw [c_rels] at h3
    obtain ⟨x0, e0, _, hs⟩ := DataW.trod_string Tryz.underlying9 h0
    obtain ⟨x1, e1, _, _⟩ := DataW.trod_int Tryz.underlying3 h1
    obtain ⟨v2, l2, e2, hw⟩ := open_words9 h2
    obtain ⟨v3, l3, e3, hr⟩ := open_rels9 h3
    simp at e0 e1 e2 e3
    subst e0 e1 e2 e3
    exact ⟨⟨x0, x1, l2, l3⟩, _, _, rfl, hw, hr, hs⟩
/-- Data that came in. -/
theorem open_data {H : Type} {enc : TypeId × Value → H} {W : World} {r : Reach} {b0 base : Nat} {sp : Nat → Bool} {held : Bool} {v : Value} {d : DataW H} {p : List MemPlace}
    (hv : Value.okWide Tryz.prog W r b0 52 v) (h : DataW.Trod enc Tryz.prog W base sp held 52 v d p) : ∃ f : DataM, DataV (fun _ => True) W v f := by
  obtain ⟨cs, rfl, hsz⟩ := Go.WideShapes.okWide_struct Tryz.underlying52 hv
  obtain ⟨fuel, hf⟩ := h
  obtain ⟨xs, n, _, hx, hl, hlen, hfs⟩ := DataW.trod_struct Tryz.underlying52 hf
  have hc : Tryz.prog.cellsOf 52 = 7 := by kernel_rfl
  rw [hc] at hsz
  have hl2 : xs.length = 7 := hlen
  obtain ⟨l⟩ := cs
  have hl' : l.length = 7 := hsz
  match l, hl' with
  | [c0, c1, c2, c3, c4, c5, c6], _ =>
    have h0 : DataW.trod enc Tryz.prog W base sp held n 9 (List.take (Tryz.prog.cellsOf 9) [c0, c1, c2, c3, c4, c5, c6]) = xs[0]? := hfs 0 _ rfl
    have h1 : DataW.trod enc Tryz.prog W base sp held n 3 (List.take (Tryz.prog.cellsOf 3) [c1, c2, c3, c4, c5, c6]) = xs[1]? := hfs 1 _ rfl
    have h2 : DataW.trod enc Tryz.prog W base sp held n 3 (List.take (Tryz.prog.cellsOf 3) [c2, c3, c4, c5, c6]) = xs[2]? := hfs 2 _ rfl
    have h3 : DataW.trod enc Tryz.prog W base sp held n 4 (List.take (Tryz.prog.cellsOf 4) [c3, c4, c5, c6]) = xs[3]? := hfs 3 _ rfl
    have h4 : DataW.trod enc Tryz.prog W base sp held n 3 (List.take (Tryz.prog.cellsOf 3) [c4, c5, c6]) = xs[4]? := hfs 4 _ rfl
    have h5 : DataW.trod enc Tryz.prog W base sp held n 39 (List.take (Tryz.prog.cellsOf 39) [c5, c6]) = xs[5]? := hfs 5 _ rfl
    have h6 : DataW.trod enc Tryz.prog W base sp held n 48 (List.take (Tryz.prog.cellsOf 48) [c6]) = xs[6]? := hfs 6 _ rfl
    rw [List.getElem?_eq_getElem (by omega)] at h0 h1 h2 h3 h4 h5 h6
    rw [c_str] at h0
    rw [c_int] at h1 h2 h4
    rw [c_bool] at h3
    rw [c_bytes] at h5
    rw [c_rels] at h6
    obtain ⟨x0, e0, _, hs⟩ := DataW.trod_string Tryz.underlying9 h0
    obtain ⟨x1, e1, _, _⟩ := DataW.trod_int Tryz.underlying3 h1
    obtain ⟨x2, e2, _, _⟩ := DataW.trod_int Tryz.underlying3 h2
    obtain ⟨x3, e3, _⟩ := DataW.trod_bool Tryz.underlying4 h3
    obtain ⟨x4, e4, _, _⟩ := DataW.trod_int Tryz.underlying3 h4
    obtain ⟨v5, l5, e5, hb⟩ := open_bytes9 h5
    obtain ⟨v6, l6, e6, hr⟩ := open_rels9 h6
    simp at e0 e1 e2 e3 e4 e5 e6
    subst e0 e1 e2 e3 e4 e5 e6
    exact ⟨⟨x0, x1, x2, x3, x4, l5, l6⟩, _, _, rfl, hb, hr, hs⟩
open Go.ChangeShapes Go.WideShapes Go.ChangeAt Go.RowKit
set_option linter.unusedVariables false
set_option linter.unusedSimpArgs false
set_option maxRecDepth 100000
/-- A list of objects that came in. -/
theorem open_objs {H : Type} {enc : TypeId × Value → H} {W : World} {r : Reach} {b0 base : Nat} {sp : Nat → Bool} {held : Bool} {v : Value} {d : DataW H} {p : List MemPlace}
    (hv : Value.okWide Tryz.prog W r b0 22 v) (h : DataW.Trod enc Tryz.prog W base sp held 22 v d p) : ∃ l : List ObjM, IsObjs (fun _ => True) W v l := by
  obtain ⟨a0, l0, c0, rfl⟩ := Go.WideShapes.okWide_slice Tryz.underlying22 hv
  obtain ⟨fuel, hf⟩ := h
  obtain ⟨v', l, e, hl⟩ := open_lst (W := W) (base := base) (sp := sp) (held := held) (enc := enc) (e := 46) (sz := 3) Tryz.underlying22 (by kernel_rfl) (by decide) (ObjAt (fun _ => True) W) (fun fuel cs x h hl => by
    obtain ⟨xs, n, _, hx, _, hlen, hfs⟩ := DataW.trod_struct Tryz.underlying46 h
    have hl2 : xs.length = 3 := hlen
    match cs, hl with
    | [c0, c1, c2], _ =>
      have h0 : DataW.trod enc Tryz.prog W base sp held n 42 (List.take (Tryz.prog.cellsOf 42) [c0, c1, c2]) = xs[0]? := hfs 0 _ rfl
      have h1 : DataW.trod enc Tryz.prog W base sp held n 43 (List.take (Tryz.prog.cellsOf 43) [c1, c2]) = xs[1]? := hfs 1 _ rfl
      have h2 : DataW.trod enc Tryz.prog W base sp held n 44 (List.take (Tryz.prog.cellsOf 44) [c2]) = xs[2]? := hfs 2 _ rfl
      rw [List.getElem?_eq_getElem (by omega)] at h0 h1 h2
      rw [c_funcs] at h0
      rw [c_datas] at h1
      rw [c_notes] at h2
      obtain ⟨v0, l0, e0, hf⟩ := open_funcs9 h0
      obtain ⟨v1, l1, e1, hd⟩ := open_datas9 h1
      obtain ⟨v2, l2, e2, hn⟩ := open_notes9 h2
      simp at e0 e1 e2
      subst e0 e1 e2
      exact ⟨⟨l0, l1, l2⟩, fun b o hc => ⟨_, _, _, hc 0 _ rfl, hc 1 _ rfl, hc 2 _ rfl, hf, hd, hn⟩⟩) hf
  simp [Value.cells] at e
  exact ⟨l, by rw [e]; exact hl⟩
end Go.Proofs.YteakbpcmafdikaaGreatDoor
