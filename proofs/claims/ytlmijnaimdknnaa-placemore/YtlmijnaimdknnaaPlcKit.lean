/- Programs, orders and plans in memory. -/
import Derived.Test.YtlmijnaimdknnaaPlcMath
import Derived.Test.YtlmijnaimdknnaaObjFew
import Derived.Laws.OwnMore
import Derived.OwnWalk
import Derived.Laws.CopyOwn
import Derived.Deep.RegionHeld3
namespace Go.Proofs.Ytlmijnaimdknnaa
open Go.ChangeShapes Go.WideShapes Go.ChangeAt Go.RowKit
set_option linter.unusedVariables false
set_option linter.unusedSimpArgs false
/-- A function of a program there, as far as its lengths. -/
def PfAt (w : World) (b o : Nat) (n : Nat) : Prop :=
  ∃ a c a' m c', w.cell? ⟨b, o + 3, none⟩ = some (.slice a n c) ∧ n ≤ maxLen ∧ w.cell? ⟨b, o + 4, none⟩ = some (.slice a' m c') ∧ m ≤ maxLen
/-- Data of a program there. -/
def PdAt (w : World) (b o : Nat) (d : DatZ) : Prop :=
  w.cell? ⟨b, o, none⟩ = some (.int .i64 d.align) ∧ w.cell? ⟨b, o + 1, none⟩ = some (.bool d.fixed) ∧ w.cell? ⟨b, o + 2, none⟩ = some (.int .i64 d.size) ∧
  w.cell? ⟨b, o + 3, none⟩ = some (.slice d.ba d.bn d.bc) ∧ w.cell? ⟨b, o + 4, none⟩ = some (.slice d.ra d.rn d.rc) ∧ d.bn ≤ maxLen ∧ d.rn ≤ maxLen
def Any8 : Nat → Prop := fun _ => True
def IsPfs (w : World) (v : Value) (l : List Nat) : Prop := LstA 5 (PfAt w) Any8 v l
def IsPds (w : World) (v : Value) (l : List DatZ) : Prop := LstA 5 (PdAt w) Any8 v l
/-- A program. -/
def IsP (w : World) (v : Value) (p : ProgZ) : Prop := ∃ vf vd, v = .agg #[vf, vd, .int .i64 p.entry] ∧ IsPfs w vf p.codes ∧ IsPds w vd p.datas
/-- A list of numbers. -/
def IsNums (w : World) (v : Value) (l : List Int) : Prop := LstA 1 (NumAt .i64 w) Any8 v l
theorem PfAt.later {w w' : World} {b o n : Nat} (h : PfAt w b o n) (hb : Below w.heap.size w w') : PfAt w' b o n := by
  obtain ⟨a, c, a', m, c', h1, h2, h3, h4⟩ := h
  exact ⟨a, c, a', m, c', cell_any h1 hb, h2, cell_any h3 hb, h4⟩
theorem PdAt.later {w w' : World} {b o : Nat} {d : DatZ} (h : PdAt w b o d) (hb : Below w.heap.size w w') : PdAt w' b o d :=
  ⟨cell_any h.1 hb, cell_any h.2.1 hb, cell_any h.2.2.1 hb, cell_any h.2.2.2.1 hb, cell_any h.2.2.2.2.1 hb, h.2.2.2.2.2⟩
theorem IsPfs.later {w w' : World} {v : Value} {l : List Nat} (h : IsPfs w v l) (hb : Below w.heap.size w w') : IsPfs w' v l := LstA.map h (fun _ h => h) fun b o x _ _ hc => hc.later hb
theorem IsPds.later {w w' : World} {v : Value} {l : List DatZ} (h : IsPds w v l) (hb : Below w.heap.size w w') : IsPds w' v l := LstA.map h (fun _ h => h) fun b o x _ _ hc => hc.later hb
theorem IsP.later {w w' : World} {v : Value} {p : ProgZ} (h : IsP w v p) (hb : Below w.heap.size w w') : IsP w' v p := by
  obtain ⟨vf, vd, e, h1, h2⟩ := h
  exact ⟨vf, vd, e, h1.later hb, h2.later hb⟩
theorem IsNums.later {w w' : World} {v : Value} {l : List Int} (h : IsNums w v l) (hb : Below w.heap.size w w') : IsNums w' v l := LstA.map h (fun _ h => h) fun b o x _ _ hc => cell_any hc hb
/-- A row of numbers of one's own. -/
def nums (l : List Int) : List Value := l.map (.int .i64)
def RowI (base : Nat) (w : World) (v : Value) (l : List Int) : Prop :=
  (v = .slice none 0 0 ∧ l = []) ∨ ∃ g, v = .slice (some ⟨g, 0, none⟩) l.length l.length ∧ base ≤ g ∧ g < w.heap.size ∧ XAt w g (nums l) ∧ l.length ≤ maxLen
theorem RowI.later {base : Nat} {w w' : World} {v : Value} {l : List Int} (h : RowI base w v l) (hb : Below w.heap.size w w') : RowI base w' v l := by
  rcases h with h | ⟨g, h1, h2, h3, h4, h5⟩
  · exact .inl h
  · exact .inr ⟨g, h1, h2, Nat.lt_of_lt_of_le h3 hb.size, h4.later h3 hb, h5⟩
theorem RowI.lower {base base' : Nat} {w : World} {v : Value} {l : List Int} (h : RowI base w v l) (hb : base' ≤ base) : RowI base' w v l := by
  rcases h with h | ⟨g, h1, h2, h3⟩
  · exact .inl h
  · exact .inr ⟨g, h1, Nat.le_trans hb h2, h3⟩
theorem nums_len (l : List Int) : (nums l).length = l.length := by simp [nums]
theorem nums_get {l : List Int} {k : Nat} {x : Int} (h : l[k]? = some x) : (nums l)[k]? = some (.int .i64 x) := by unfold nums; rw [List.getElem?_map, h]; rfl
theorem RowI.isNums {base : Nat} {w : World} {v : Value} {l : List Int} (h : RowI base w v l) : IsNums w v l := by
  rcases h with ⟨rfl, rfl⟩ | ⟨g, rfl, h2, h3, h4, h5⟩
  · exact LstA.nil
  · refine ⟨some ⟨g, 0, none⟩, l.length, rfl, ⟨⟨Nat.le_refl _, fun e => by cases e⟩, h5⟩, fun _ _ => trivial, .inr ⟨g, 0, rfl, fun i x hx => ?_⟩⟩
    rw [Nat.zero_add, Nat.mul_one]
    exact h4.1 i _ (nums_get hx)
theorem nums_set (l : List Int) (k : Nat) (x : Int) : (nums l).set k (.int .i64 x) = nums (l.set k x) := by unfold nums; rw [List.map_set]
theorem xnum_set {w : World} {g : Nat} {l : List Int} (h : XAt w g (nums l)) {k : Nat} (hk : k < l.length) (x : Int) : XAt (w.setCell ⟨g, k, none⟩ (.int .i64 x)) g (nums (l.set k x)) := by
  rw [← nums_set]; exact h.set k (by rw [nums_len]; exact hk) _
theorem get_some {α : Type} {l : List α} {k : Nat} (h : k < l.length) : ∃ x, l[k]? = some x := ⟨_, List.getElem?_eq_getElem h⟩
theorem get_lt {α : Type} {l : List α} {k : Nat} {x : α} (h : l[k]? = some x) : k < l.length := (List.getElem?_eq_some_iff.1 h).1
theorem xat_other {w : World} {X g o : Nat} {cs : List Value} (h : XAt w X cs) (hX : X ≠ g) (v : Value) : XAt (w.setCell ⟨g, o, none⟩ v) X cs :=
  ⟨fun j u hj => (World.cell?_setCell_other _ _ _ _ (fun q => hX (by injection q with q1; exact q1.symm))).trans (h.1 j u hj), fun j => by have := h.2 j; simpa using this⟩
/-- A plan in new memory. -/
def IsPlan (base : Nat) (w : World) (v : Value) (x : PlanZ) : Prop :=
  ∃ vc vd, v = .agg #[vc, vd, .int .i64 x.words, .int .i64 x.bytes, .int .i64 x.write] ∧ RowI base w vc x.code ∧ RowI base w vd x.data ∧ ∀ a n c b m d, vc = .slice (some a) n c → vd = .slice (some b) m d → a.block ≠ b.block
theorem IsPlan.later {base : Nat} {w w' : World} {v : Value} {x : PlanZ} (h : IsPlan base w v x) (hb : Below w.heap.size w w') : IsPlan base w' v x := by
  obtain ⟨vc, vd, e, h1, h2, h3⟩ := h
  exact ⟨vc, vd, e, h1.later hb, h2.later hb, h3⟩
theorem IsPlan.lower {base base' : Nat} {w : World} {v : Value} {x : PlanZ} (h : IsPlan base w v x) (hb : base' ≤ base) : IsPlan base' w v x := by
  obtain ⟨vc, vd, e, h1, h2, h3⟩ := h
  exact ⟨vc, vd, e, h1.lower hb, h2.lower hb, h3⟩
theorem IsPlan.none {base : Nat} {w : World} : IsPlan base w (.agg #[.slice none 0 0, .slice none 0 0, .int .i64 0, .int .i64 0, .int .i64 0]) noPlan :=
  ⟨_, _, rfl, .inl ⟨rfl, rfl⟩, .inl ⟨rfl, rfl⟩, fun a n c b m d h => by cases h⟩
/-- The answer with its error. -/
def PlanPost (base : Nat) (r : Int × PlanZ) (e : Ending) (w : World) : Prop := ∃ v, e = .returned (.tuple #[v, .int .i64 r.1]) ∧ IsPlan base w v r.2
/-- The answer is yes only if P. -/
def OnlyIf (e : Ending) (P : Prop) : Prop := ∃ b : Bool, e = .returned (.bool b) ∧ (b = true → P)
theorem only_no {P : Prop} : OnlyIf (.returned (.bool false)) P := ⟨false, rfl, fun h => by cases h⟩
theorem only_yes {P : Prop} (h : P) : OnlyIf (.returned (.bool true)) P := ⟨true, rfl, fun _ => h⟩
theorem may_len {n : Nat} (h : n ≤ maxLen) : (n : Int) ≤ 9223372036854775807 := by unfold maxLen at h; omega
theorem LstA.len {α : Type} {sz : Nat} {el : Nat → Nat → α → Prop} {A : Nat → Prop} {v : Value} {l : List α} (h : LstA sz el A v l) : (l.length : Int) ≤ 9223372036854775807 := by
  obtain ⟨a, c, -, h, -⟩ := h.open; exact may_len h
end Go.Proofs.Ytlmijnaimdknnaa
