/- What patch is handed as place has it; rows of numbers of one's own. No condition. -/
import Derived.Test.YtombfnnpdamlgaaDoorPatBase
import Derived.Test.YtombfnnpdamlgaaDoorPlcApartM
import Derived.Test.YtombfnnpdamlgaaDoorCodePG
namespace Go.Proofs.YtombfnnpdamlgaaDoor
open Go.ChangeShapes Go.WideShapes Go.ChangeAt Go.RowKit
set_option linter.unusedVariables false
set_option linter.unusedSimpArgs false
theorem lst_choose {α β : Type} {sz : Nat} {el : Nat → Nat → α → Prop} {el' : Nat → Nat → β → Prop} {A : Nat → Prop} {R : α → β → Prop} {v : Value} {l : List α} (h : LstA sz el A v l) (hx : ∀ b o x, A b → el b o x → ∃ y, el' b o y ∧ R x y) :
    ∃ l' : List β, l'.length = l.length ∧ LstA sz el' A v l' ∧ ∀ (k : Nat) x, l[k]? = some x → ∃ y, l'[k]? = some y ∧ R x y := by
  obtain ⟨a, c, e, hh, hA, hl⟩ := h
  rcases hl with rfl | ⟨b, off, e2, hc⟩
  · exact ⟨[], rfl, ⟨a, c, e, hh, hA, .inl rfl⟩, fun k x h => by simp at h⟩
  · have key : ∀ i : Fin l.length, ∃ y, el' b (off + i * sz) y ∧ R l[i] y := fun i => hx b _ _ (hA _ e2) (hc i l[i] (List.getElem?_eq_getElem i.2))
    refine ⟨List.ofFn fun i => (key i).choose, by simp, ⟨a, c, by rw [e]; simp, by simpa using hh, hA, .inr ⟨b, off, e2, fun i y hy => ?_⟩⟩, fun k x hk => ?_⟩
    · rw [List.getElem?_ofFn] at hy
      split at hy
      · rename_i hi
        injection hy with hy
        rw [← hy]
        exact (key ⟨i, hi⟩).choose_spec.1
      · cases hy
    · obtain ⟨hk1, hk2⟩ := List.getElem?_eq_some_iff.1 hk
      refine ⟨(key ⟨k, hk1⟩).choose, by rw [List.getElem?_ofFn, dif_pos hk1], ?_⟩
      rw [← hk2]
      exact (key ⟨k, hk1⟩).choose_spec.2
/-- The data as place has them. -/
def AsZ (d : PDataM) (z : DatZ) : Prop := z.align = d.align ∧ z.fixed = d.fixed ∧ z.size = d.size ∧ z.bn = d.bytes.length ∧ z.rn = d.rels.length
def OfP (p : ProgM) (z : ProgZ) : Prop := z.codes = p.funcs.map (fun f => f.code.length) ∧ z.entry = p.entry ∧ z.datas.length = p.datas.length ∧ ∀ (k : Nat) d, p.datas[k]? = some d → ∃ y, z.datas[k]? = some y ∧ AsZ d y
theorem words_form {A : Nat → Prop} {w : World} {v : Value} {l : List Int} (h : IsWords A w v l) : ∃ a c, v = .slice a l.length c ∧ l.length ≤ maxLen := by
  obtain ⟨a, c, e, h, -⟩ := h.1
  exact ⟨a, c, e, Nat.le_trans h.1.1 h.2⟩
theorem bytes_form {A : Nat → Prop} {w : World} {v : Value} {l : List Int} (h : IsBytes A w v l) : ∃ a c, v = .slice a l.length c ∧ l.length ≤ maxLen := by
  obtain ⟨a, c, e, h, -⟩ := h.1
  exact ⟨a, c, e, Nat.le_trans h.1.1 h.2⟩
theorem prels_form {A : Nat → Prop} {w : World} {v : Value} {l : List PRelM} (h : IsPRels A w v l) : ∃ a c, v = .slice a l.length c ∧ l.length ≤ maxLen := by
  obtain ⟨a, c, e, h, -⟩ := h
  exact ⟨a, c, e, Nat.le_trans h.1.1 h.2⟩
theorem IsProg.place {w : World} {v : Value} {p : ProgM} (h : IsProg Any8 w v p) : ∃ z, IsP w v z ∧ OfP p z := by
  obtain ⟨vf, vd, e, hf, hd⟩ := h
  obtain ⟨l1, n1, h1, q1⟩ := lst_choose (el' := PfAt w) (R := fun (f : PFuncM) n => n = f.code.length) hf fun b o x _ hx => by
    obtain ⟨vc, vr, -, -, -, h3, h4, hw, hr⟩ := hx
    obtain ⟨a, c, rfl, l3⟩ := words_form hw
    obtain ⟨a', c', rfl, l4⟩ := prels_form hr
    exact ⟨_, ⟨_, _, _, _, _, h3, l3, h4, l4⟩, rfl⟩
  obtain ⟨l2, n2, h2, q2⟩ := lst_choose (el' := PdAt w) (R := AsZ) hd fun b o x _ hx => by
    obtain ⟨vc, vr, h0, h1, h2, h3, h4, hw, hr⟩ := hx
    obtain ⟨a, c, rfl, l3⟩ := bytes_form hw
    obtain ⟨a', c', rfl, l4⟩ := prels_form hr
    exact ⟨⟨x.align, x.fixed, x.size, a, _, c, a', _, c'⟩, ⟨h0, h1, h2, h3, h4, l3, l4⟩, rfl, rfl, rfl, rfl, rfl⟩
  refine ⟨⟨l1, l2, p.entry⟩, ⟨vf, vd, e, h1, h2⟩, ?_, rfl, n2, q2⟩
  apply List.ext_getElem?
  intro k
  rw [List.getElem?_map]
  cases hk : p.funcs[k]? with
  | none =>
    have : l1[k]? = none := by rw [List.getElem?_eq_none_iff] at hk ⊢; omega
    exact this
  | some x =>
    obtain ⟨y, hy, ey⟩ := q1 k x hk
    show l1[k]? = _
    rw [hy, ey]; rfl
theorem OfP.nf {p : ProgM} {z : ProgZ} (h : OfP p z) : z.codes.length = p.funcs.length := by rw [h.1, List.length_map]
/-- A row of numbers of one's own. -/
def RowU (k : IntKind) (base : Nat) (w : World) (v : Value) (l : List Int) : Prop :=
  ∃ a c, v = .slice a l.length c ∧ (Head a l.length c ∧ c ≤ maxLen) ∧ (l = [] ∨ ∃ g, a = some ⟨g, 0, none⟩ ∧ base ≤ g ∧ g < w.heap.size ∧ XAt w g (l.map fun x => .int k x))
theorem RowU.later {k : IntKind} {base : Nat} {w w' : World} {v : Value} {l : List Int} (h : RowU k base w v l) (hb : Below w.heap.size w w') : RowU k base w' v l := by
  obtain ⟨a, c, e, hh, hl⟩ := h
  exact ⟨a, c, e, hh, hl.imp id fun ⟨g, h1, h2, h3, h4⟩ => ⟨g, h1, h2, Nat.lt_of_lt_of_le h3 hb.size, h4.later h3 hb⟩⟩
theorem RowU.lower {k : IntKind} {base base' : Nat} {w : World} {v : Value} {l : List Int} (h : RowU k base w v l) (hb : base' ≤ base) : RowU k base' w v l := by
  obtain ⟨a, c, e, hh, hl⟩ := h
  exact ⟨a, c, e, hh, hl.imp id fun ⟨g, h1, h2, h3⟩ => ⟨g, h1, Nat.le_trans hb h2, h3⟩⟩
theorem RowU.nil {k : IntKind} {base : Nat} {w : World} : RowU k base w (.slice none 0 0) [] := ⟨none, 0, rfl, ⟨⟨Nat.le_refl _, fun _ => rfl⟩, Nat.zero_le _⟩, .inl rfl⟩
theorem RowU.lst {k : IntKind} {base : Nat} {w : World} {v : Value} {l : List Int} (h : RowU k base w v l) : LstA 1 (NumAt k w) Any8 v l := by
  obtain ⟨a, c, e, hh, hl⟩ := h
  refine ⟨a, c, e, hh, fun _ _ => trivial, hl.imp id fun ⟨g, h1, h2, h3, h4⟩ => ⟨g, 0, h1, fun i x hx => ?_⟩⟩
  rw [Nat.zero_add, Nat.mul_one]
  exact h4.1 i _ (by rw [List.getElem?_map, hx]; rfl)
theorem RowU.words {base : Nat} {w : World} {v : Value} {l : List Int} (h : RowU .u32 base w v l) (hw : Wrd l) : IsWords Any8 w v l := ⟨h.lst, hw⟩
theorem RowU.bytes {base : Nat} {w : World} {v : Value} {l : List Int} (h : RowU .u8 base w v l) (hw : Byt l) : IsBytes Any8 w v l := ⟨h.lst, hw⟩
theorem xat_num {k : IntKind} {w : World} {g : Nat} {l : List Int} (h : XAt w g (l.map fun x => .int k x)) {j : Nat} {x : Int} (hj : l[j]? = some x) : w.cell? ⟨g, j, none⟩ = some (.int k x) := h.1 j _ (by rw [List.getElem?_map, hj]; rfl)
theorem xat_put {k : IntKind} {w : World} {g : Nat} {l : List Int} (h : XAt w g (l.map fun x => .int k x)) {j : Nat} (hj : j < l.length) (x : Int) : XAt (w.setCell ⟨g, j, none⟩ (.int k x)) g ((l.set j x).map fun x => .int k x) := by
  rw [List.map_set]
  exact h.set j (by simpa using hj) _
/-- What an append has made is one's own. -/
theorem own_rowU {k : IntKind} {w : World} {base : Nat} {e : TypeId} {v : Value} {l : List Int} (h : w.ownsRow base e 1 v l.length (l.map fun x => .int k x)) : RowU k base w v l := by
  have hlen := h.1
  rcases h.2 with ⟨rfl, h0⟩ | ⟨g, cap, cur, rfl, hg, hh, hn, hm, hs, ht⟩
  · obtain rfl : l = [] := List.length_eq_zero_iff.1 h0
    exact RowU.nil
  · refine ⟨some ⟨g, 0, none⟩, cap, rfl, ⟨⟨hn, fun e => by cases e⟩, hm⟩, .inr ⟨g, rfl, hg, ?_, fun j u hj => ?_, fun j => ?_⟩⟩
    · exact (Array.getElem?_eq_some_iff.1 hh).1
    · have h1 : cur.toList[j]? = some u := by
        rw [← ht] at hj
        rw [List.getElem?_take] at hj
        split at hj
        · exact hj
        · cases hj
      rw [Array.getElem?_toList] at h1
      simp only [World.cell?, hh, go_sem]
      simpa using h1
    · simp only [World.frozen?, hh]
      simp
end Go.Proofs.YtombfnnpdamlgaaDoor
