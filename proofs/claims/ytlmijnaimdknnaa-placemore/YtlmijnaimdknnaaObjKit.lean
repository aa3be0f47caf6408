/- Objects in memory: lists of whatever, of so many cells each; what holds a list of relocations, of functions, of data, of notes. -/
import Derived.Test.YtlmijnaimdknnaaObjMath
import Derived.Test.YtlmijnaimdknnaaScanKit
import Derived.Test.YtlmijnaimdknnaaSliceLib
namespace Go.Proofs.Ytlmijnaimdknnaa
open Go.ChangeShapes Go.WideShapes Go.ChangeAt Go.RowKit
set_option linter.unusedVariables false
set_option linter.unusedSimpArgs false
/-- The elements as a function. -/
def gF (l : List Int) : Nat → Int := fun i => l.getD i 0
theorem gF_byt {l : Bs} (h : Byt l) : ∀ i, 0 ≤ gF l i ∧ gF l i < 256 := fun i => by
  unfold gF
  rw [List.getD_eq_getElem?_getD]
  cases hi : l[i]? with
  | none => simp
  | some x => simp; exact h x (List.mem_of_getElem? hi)
theorem gF_get {l : List Int} {i : Nat} (h : i < l.length) : l[i]? = some (gF l i) := by
  unfold gF
  rw [List.getD_eq_getElem?_getD, List.getElem?_eq_getElem h]; rfl
/-- A list of elements of sz cells each; its block satisfies A. -/
def LstA {α : Type} (sz : Nat) (el : Nat → Nat → α → Prop) (A : Nat → Prop) (v : Value) (l : List α) : Prop :=
  ∃ a c, v = .slice a l.length c ∧ (Head a l.length c ∧ c ≤ maxLen) ∧ (∀ x, a = some x → A x.block) ∧ (l = [] ∨ ∃ b off, a = some ⟨b, off, none⟩ ∧ ∀ i x, l[i]? = some x → el b (off + i * sz) x)
theorem LstA.map {α : Type} {sz : Nat} {el el' : Nat → Nat → α → Prop} {A A' : Nat → Prop} {v : Value} {l : List α} (h : LstA sz el A v l) (h1 : ∀ k, A k → A' k) (h2 : ∀ b o x, A b → x ∈ l → el b o x → el' b o x) : LstA sz el' A' v l := by
  obtain ⟨a, c, e, hh, hA, hl⟩ := h
  refine ⟨a, c, e, hh, fun x e => h1 _ (hA x e), hl.imp id fun ⟨b, off, e, hc⟩ => ⟨b, off, e, fun i x hx => ?_⟩⟩
  exact h2 b _ x (hA ⟨b, off, none⟩ e) (List.mem_of_getElem? hx) (hc i x hx)
theorem LstA.nil {α : Type} {sz : Nat} {el : Nat → Nat → α → Prop} {A : Nat → Prop} : LstA sz el A (.slice none 0 0) [] := ⟨none, 0, rfl, ⟨⟨Nat.le_refl _, fun _ => rfl⟩, Nat.zero_le _⟩, (fun x e => by cases e), .inl rfl⟩
/-- A number there. -/
def NumAt (k : IntKind) (w : World) (b o : Nat) (x : Int) : Prop := w.cell? ⟨b, o, none⟩ = some (.int k x)
def IsBytes (A : Nat → Prop) (w : World) (v : Value) (l : Bs) : Prop := LstA 1 (NumAt .u8 w) A v l ∧ Byt l
def Wrd (l : List Int) : Prop := ∀ x ∈ l, 0 ≤ x ∧ x < 4294967296
def IsWords (A : Nat → Prop) (w : World) (v : Value) (l : List Int) : Prop := LstA 1 (NumAt .u32 w) A v l ∧ Wrd l
/-- A relocation there. -/
def RelAt (w : World) (b o : Nat) (r : RelM) : Prop :=
  w.cell? ⟨b, o, none⟩ = some (.int .i64 r.at_) ∧ w.cell? ⟨b, o + 1, none⟩ = some (.int .i64 r.kind) ∧ w.cell? ⟨b, o + 2, none⟩ = some (.string r.name) ∧ w.cell? ⟨b, o + 3, none⟩ = some (.int .i64 r.add) ∧ r.name.size ≤ maxLen
def IsRels (A : Nat → Prop) (w : World) (v : Value) (l : List RelM) : Prop := LstA 4 (RelAt w) A v l
def FuncAt (A : Nat → Prop) (w : World) (b o : Nat) (f : FuncM) : Prop :=
  ∃ vc vr, w.cell? ⟨b, o, none⟩ = some (.string f.name) ∧ w.cell? ⟨b, o + 1, none⟩ = some (.int .i64 f.bind) ∧ w.cell? ⟨b, o + 2, none⟩ = some vc ∧ w.cell? ⟨b, o + 3, none⟩ = some vr ∧ IsWords A w vc f.code ∧ IsRels A w vr f.rels ∧ f.name.size ≤ maxLen
def IsFuncs (A : Nat → Prop) (w : World) (v : Value) (l : List FuncM) : Prop := LstA 4 (FuncAt A w) A v l
def DataAt (A : Nat → Prop) (w : World) (b o : Nat) (d : DataM) : Prop :=
  ∃ vb vr, w.cell? ⟨b, o, none⟩ = some (.string d.name) ∧ w.cell? ⟨b, o + 1, none⟩ = some (.int .i64 d.bind) ∧ w.cell? ⟨b, o + 2, none⟩ = some (.int .i64 d.align) ∧ w.cell? ⟨b, o + 3, none⟩ = some (.bool d.fixed) ∧ w.cell? ⟨b, o + 4, none⟩ = some (.int .i64 d.size) ∧
    w.cell? ⟨b, o + 5, none⟩ = some vb ∧ w.cell? ⟨b, o + 6, none⟩ = some vr ∧ IsBytes A w vb d.bytes ∧ IsRels A w vr d.rels ∧ d.name.size ≤ maxLen
def IsDatas (A : Nat → Prop) (w : World) (v : Value) (l : List DataM) : Prop := LstA 7 (DataAt A w) A v l
def NoteAt (w : World) (b o : Nat) (x : NoteM) : Prop := w.cell? ⟨b, o, none⟩ = some (.string x.name) ∧ w.cell? ⟨b, o + 1, none⟩ = some (.int .i64 x.kind) ∧ x.name.size ≤ maxLen
def IsNotes (A : Nat → Prop) (w : World) (v : Value) (l : List NoteM) : Prop := LstA 2 (NoteAt w) A v l
def IsObj (A : Nat → Prop) (w : World) (v : Value) (o : ObjM) : Prop := ∃ vf vd vn, v = .agg #[vf, vd, vn] ∧ IsFuncs A w vf o.funcs ∧ IsDatas A w vd o.datas ∧ IsNotes A w vn o.notes
/-- Blocks of A stand. -/
def Stay (A : Nat → Prop) (w w' : World) : Prop := ∀ k, A k → k < w.heap.size → w'.heap[k]? = w.heap[k]?
theorem Stay.of_below {A : Nat → Prop} {w w' : World} (h : Below w.heap.size w w') : Stay A w w' := fun k _ hk => h.block k hk
theorem Stay.cell {A : Nat → Prop} {w w' : World} (h : Stay A w w') {b o : Nat} {v : Value} (hb : A b) (hc : w.cell? ⟨b, o, none⟩ = some v) : w'.cell? ⟨b, o, none⟩ = some v :=
  (World.cell?_of_block (a := ⟨b, o, none⟩) (h b hb (World.block_lt_of_cell? w _ hc))).trans hc
theorem Stay.of_apart {A O : Nat → Prop} {w w' : World} (h : Apart O w w') (hA : ∀ k, A k → ¬ O k) : Stay A w w' := fun k h1 h2 => h.block k h2 (hA k h1)
theorem IsBytes.keep {A : Nat → Prop} {w w' : World} {v : Value} {l : Bs} (h : IsBytes A w v l) (hk : Stay A w w') : IsBytes A w' v l := ⟨h.1.map (fun _ h => h) fun b o x hb _ hc => hk.cell hb hc, h.2⟩
theorem IsWords.keep {A : Nat → Prop} {w w' : World} {v : Value} {l : List Int} (h : IsWords A w v l) (hk : Stay A w w') : IsWords A w' v l := ⟨h.1.map (fun _ h => h) fun b o x hb _ hc => hk.cell hb hc, h.2⟩
theorem RelAt.keep {A : Nat → Prop} {w w' : World} {b o : Nat} {r : RelM} (h : RelAt w b o r) (hk : Stay A w w') (hb : A b) : RelAt w' b o r := ⟨hk.cell hb h.1, hk.cell hb h.2.1, hk.cell hb h.2.2.1, hk.cell hb h.2.2.2.1, h.2.2.2.2⟩
theorem IsRels.keep {A : Nat → Prop} {w w' : World} {v : Value} {l : List RelM} (h : IsRels A w v l) (hk : Stay A w w') : IsRels A w' v l := LstA.map h (fun _ h => h) fun b o x hb _ hc => hc.keep hk hb
theorem FuncAt.keep {A : Nat → Prop} {w w' : World} {b o : Nat} {f : FuncM} (h : FuncAt A w b o f) (hk : Stay A w w') (hb : A b) : FuncAt A w' b o f := by
  obtain ⟨vc, vr, h1, h2, h3, h4, h5, h6, h7⟩ := h
  exact ⟨vc, vr, hk.cell hb h1, hk.cell hb h2, hk.cell hb h3, hk.cell hb h4, h5.keep hk, h6.keep hk, h7⟩
theorem IsFuncs.keep {A : Nat → Prop} {w w' : World} {v : Value} {l : List FuncM} (h : IsFuncs A w v l) (hk : Stay A w w') : IsFuncs A w' v l := LstA.map h (fun _ h => h) fun b o x hb _ hc => hc.keep hk hb
theorem DataAt.keep {A : Nat → Prop} {w w' : World} {b o : Nat} {d : DataM} (h : DataAt A w b o d) (hk : Stay A w w') (hb : A b) : DataAt A w' b o d := by
  obtain ⟨vb, vr, h1, h2, h3, h4, h5, h6, h7, h8, h9, h10⟩ := h
  exact ⟨vb, vr, hk.cell hb h1, hk.cell hb h2, hk.cell hb h3, hk.cell hb h4, hk.cell hb h5, hk.cell hb h6, hk.cell hb h7, h8.keep hk, h9.keep hk, h10⟩
theorem IsDatas.keep {A : Nat → Prop} {w w' : World} {v : Value} {l : List DataM} (h : IsDatas A w v l) (hk : Stay A w w') : IsDatas A w' v l := LstA.map h (fun _ h => h) fun b o x hb _ hc => hc.keep hk hb
theorem NoteAt.keep {A : Nat → Prop} {w w' : World} {b o : Nat} {x : NoteM} (h : NoteAt w b o x) (hk : Stay A w w') (hb : A b) : NoteAt w' b o x := ⟨hk.cell hb h.1, hk.cell hb h.2.1, h.2.2⟩
theorem IsNotes.keep {A : Nat → Prop} {w w' : World} {v : Value} {l : List NoteM} (h : IsNotes A w v l) (hk : Stay A w w') : IsNotes A w' v l := LstA.map h (fun _ h => h) fun b o x hb _ hc => hc.keep hk hb
theorem IsObj.keep {A : Nat → Prop} {w w' : World} {v : Value} {o : ObjM} (h : IsObj A w v o) (hk : Stay A w w') : IsObj A w' v o := by
  obtain ⟨vf, vd, vn, e, h1, h2, h3⟩ := h
  exact ⟨vf, vd, vn, e, h1.keep hk, h2.keep hk, h3.keep hk⟩
theorem IsBytes.wide {A A' : Nat → Prop} {w : World} {v : Value} {l : Bs} (h : IsBytes A w v l) (hA : ∀ k, A k → A' k) : IsBytes A' w v l := ⟨h.1.map hA fun b o x hb _ hc => hc, h.2⟩
theorem IsWords.wide {A A' : Nat → Prop} {w : World} {v : Value} {l : List Int} (h : IsWords A w v l) (hA : ∀ k, A k → A' k) : IsWords A' w v l := ⟨h.1.map hA fun b o x hb _ hc => hc, h.2⟩
theorem IsRels.wide {A A' : Nat → Prop} {w : World} {v : Value} {l : List RelM} (h : IsRels A w v l) (hA : ∀ k, A k → A' k) : IsRels A' w v l := LstA.map h hA fun b o x hb _ hc => hc
theorem FuncAt.wide {A A' : Nat → Prop} {w : World} {b o : Nat} {f : FuncM} (h : FuncAt A w b o f) (hA : ∀ k, A k → A' k) : FuncAt A' w b o f := by
  obtain ⟨vc, vr, h1, h2, h3, h4, h5, h6, h7⟩ := h
  exact ⟨vc, vr, h1, h2, h3, h4, h5.wide hA, h6.wide hA, h7⟩
theorem DataAt.wide {A A' : Nat → Prop} {w : World} {b o : Nat} {d : DataM} (h : DataAt A w b o d) (hA : ∀ k, A k → A' k) : DataAt A' w b o d := by
  obtain ⟨vb, vr, h1, h2, h3, h4, h5, h6, h7, h8, h9, h10⟩ := h
  exact ⟨vb, vr, h1, h2, h3, h4, h5, h6, h7, h8.wide hA, h9.wide hA, h10⟩
theorem IsFuncs.wide {A A' : Nat → Prop} {w : World} {v : Value} {l : List FuncM} (h : IsFuncs A w v l) (hA : ∀ k, A k → A' k) : IsFuncs A' w v l := LstA.map h hA fun b o x hb _ hc => hc.wide hA
theorem IsDatas.wide {A A' : Nat → Prop} {w : World} {v : Value} {l : List DataM} (h : IsDatas A w v l) (hA : ∀ k, A k → A' k) : IsDatas A' w v l := LstA.map h hA fun b o x hb _ hc => hc.wide hA
theorem IsNotes.wide {A A' : Nat → Prop} {w : World} {v : Value} {l : List NoteM} (h : IsNotes A w v l) (hA : ∀ k, A k → A' k) : IsNotes A' w v l := LstA.map h hA fun b o x hb _ hc => hc
theorem IsObj.wide {A A' : Nat → Prop} {w : World} {v : Value} {o : ObjM} (h : IsObj A w v o) (hA : ∀ k, A k → A' k) : IsObj A' w v o := by
  obtain ⟨vf, vd, vn, e, h1, h2, h3⟩ := h
  exact ⟨vf, vd, vn, e, h1.wide hA, h2.wide hA, h3.wide hA⟩
/-- A list's bytes as the other texts have them. -/
theorem IsBytes.row {A : Nat → Prop} {w : World} {v : Value} {l : Bs} (h : IsBytes A w v l) : ∃ a c, v = .slice a l.length c ∧ (Head a l.length c ∧ c ≤ maxLen) ∧ Bytes w a l.length (gF l) ∧ (∀ x, a = some x → A x.block) := by
  obtain ⟨⟨a, c, e, hh, hA, hl⟩, hb⟩ := h
  refine ⟨a, c, e, hh, ⟨gF_byt hb, ?_⟩, hA⟩
  rcases hl with rfl | ⟨b, off, e, hc⟩
  · exact .inl rfl
  · exact .inr ⟨b, off, e, fun i hi => by have := hc i _ (gF_get hi); rwa [Nat.mul_one] at this⟩
theorem IsBytes.mk {A : Nat → Prop} {w : World} {a : Option Addr} {c : Nat} {l : Bs} (hh : Head a l.length c) (hc : c ≤ maxLen) (hA : ∀ x, a = some x → A x.block) (hb : Byt l) (h : Bytes w a l.length (gF l)) : IsBytes A w (.slice a l.length c) l := by
  refine ⟨⟨a, c, rfl, ⟨hh, hc⟩, hA, ?_⟩, hb⟩
  rcases h.2 with h | ⟨b, off, e, hc⟩
  · exact .inl (List.eq_nil_of_length_eq_zero h)
  · refine .inr ⟨b, off, e, fun i x hx => ?_⟩
    have hi : i < l.length := by
      rcases Nat.lt_or_ge i l.length with h | h
      · exact h
      · rw [List.getElem?_eq_none h] at hx; cases hx
    have h1 := hc i hi
    rw [gF_get hi] at hx
    cases hx
    rw [Nat.mul_one]; exact h1
/-- A block of one's own: its cells, and that it may be written to. -/
def XAt (w : World) (X : Nat) (cs : List Value) : Prop := (∀ j v, cs[j]? = some v → w.cell? ⟨X, j, none⟩ = some v) ∧ ∀ j, w.frozen? ⟨X, j, none⟩ = false
theorem XAt.new (w : World) (cs : Array Value) (t : TypeId) : XAt (w.alloc (.cells cs t)) w.heap.size cs.toList :=
  ⟨fun j v h => new_cell' w cs t j v (by rw [← Array.getElem?_toList]; exact h), fun j => by simp [go_sem]⟩
theorem XAt.keep {w w' : World} {X : Nat} {cs : List Value} (h : XAt w X cs) (hk : w'.heap[X]? = w.heap[X]?) : XAt w' X cs :=
  ⟨fun j v hj => (World.cell?_of_block (a := ⟨X, j, none⟩) hk).trans (h.1 j v hj), fun j => (World.frozen?_of_block (a := ⟨X, j, none⟩) hk).trans (h.2 j)⟩
theorem XAt.lt {w : World} {X : Nat} {cs : List Value} (h : XAt w X cs) (hn : cs ≠ []) : X < w.heap.size := by
  cases cs with
  | nil => exact absurd rfl hn
  | cons v l => exact World.block_lt_of_cell? w ⟨X, 0, none⟩ (h.1 0 v rfl)
theorem XAt.set {w : World} {X : Nat} {cs : List Value} (h : XAt w X cs) (i : Nat) (hi : i < cs.length) (v : Value) : XAt (w.setCell ⟨X, i, none⟩ v) X (cs.set i v) := by
  refine ⟨fun j u hj => ?_, fun j => by have := h.2 j; simpa using this⟩
  by_cases e : i = j
  · subst e
    rw [List.getElem?_set_self (by omega)] at hj
    cases hj
    exact World.cell?_setCell_same _ _ _ (h.1 i _ (List.getElem?_eq_getElem hi))
  · rw [List.getElem?_set_ne e] at hj
    exact (World.cell?_setCell_other _ _ _ _ (fun q => e (by injection q))).trans (h.1 j u hj)
theorem XAt.later {w w' : World} {X : Nat} {cs : List Value} (h : XAt w X cs) (hX : X < w.heap.size) (hb : Below w.heap.size w w') : XAt w' X cs := h.keep (hb.block X hX)
theorem XAt.apart {O : Nat → Prop} {w w' : World} {X : Nat} {cs : List Value} (h : XAt w X cs) (hX : X < w.heap.size) (hb : Apart O w w') (hn : ¬ O X) : XAt w' X cs := h.keep (hb.block X hX hn)
/-- A store into a block that came later. -/
theorem low_set {B : Nat} {w : World} {X i : Nat} (v : Value) (hX : B ≤ X) : Below B w (w.setCell ⟨X, i, none⟩ v) := (Below.refl _ _).setCell (p := ⟨X, i, none⟩) hX _
end Go.Proofs.Ytlmijnaimdknnaa
