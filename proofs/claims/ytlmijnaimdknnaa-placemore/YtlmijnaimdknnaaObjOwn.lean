/- Rows of one's own, whose elements have more than one cell. -/
import Derived.Test.YtlmijnaimdknnaaObjKit
namespace Go.Proofs.Ytlmijnaimdknnaa
open Go.ChangeShapes Go.WideShapes Go.ChangeAt Go.RowKit
set_option linter.unusedVariables false
set_option linter.unusedSimpArgs false
theorem flat_get {α : Type} {cells : α → List Value} {sz : Nat} (hc : ∀ x, (cells x).length = sz) : ∀ (l : List α) (i : Nat) (x : α), l[i]? = some x → ∀ j v, (cells x)[j]? = some v → (l.flatMap cells)[i * sz + j]? = some v := by
  intro l
  induction l with
  | nil => intro i x h; simp at h
  | cons y l ih =>
    intro i x h j v hv
    have hj : j < sz := by
      rw [← hc x]
      exact (List.getElem?_eq_some_iff.1 hv).1
    rw [List.flatMap_cons]
    rcases i with _ | i
    · simp at h
      subst h
      rw [List.getElem?_append_left (by rw [hc]; omega), Nat.zero_mul, Nat.zero_add]
      exact hv
    · rw [List.getElem?_append_right (by rw [hc, Nat.add_mul]; omega), hc]
      rw [show (i + 1) * sz + j - sz = i * sz + j from by rw [Nat.add_mul]; omega]
      exact ih i x (by simpa using h) j v hv
theorem flat_len {α : Type} {cells : α → List Value} {sz : Nat} (hc : ∀ x, (cells x).length = sz) (l : List α) : (l.flatMap cells).length = l.length * sz := by
  induction l with
  | nil => simp
  | cons y l ih => rw [List.flatMap_cons, List.length_append, ih, hc, List.length_cons, Nat.add_mul]; omega
/-- A row of one's own as a list. -/
theorem own_lst {α : Type} {cells : α → List Value} {sz : Nat} (hc : ∀ x, (cells x).length = sz) {w : World} {base : Nat} {e : TypeId} {v : Value} {l : List α} (h : w.ownsRow base e sz v l.length (l.flatMap cells)) {el : Nat → Nat → α → Prop} (hel : ∀ b o x, x ∈ l → (∀ j u, (cells x)[j]? = some u → w.cell? ⟨b, o + j, none⟩ = some u) → el b o x) :
    LstA sz el (fun k => base ≤ k ∧ k < w.heap.size) v l := by
  rcases id h.2 with ⟨rfl, h0⟩ | ⟨g, cap', cur, rfl, hb, hg, hn, hm, _⟩
  · obtain rfl := List.eq_nil_of_length_eq_zero h0
    exact LstA.nil
  · refine ⟨some ⟨g, 0, none⟩, cap', rfl, ⟨⟨hn, fun e => by cases e⟩, hm⟩, fun x e => ?_, .inr ⟨g, 0, rfl, fun i x hx => ?_⟩⟩
    · cases e
      refine ⟨hb, ?_⟩
      rcases Nat.lt_or_ge g w.heap.size with h | h
      · exact h
      · rw [Array.getElem?_eq_none h] at hg; cases hg
    · refine hel g _ x (List.mem_of_getElem? hx) fun j u hu => ?_
      have := h.cells (g := g) rfl _ _ (flat_get hc l i x hx j u hu)
      rw [Nat.zero_add]
      rwa [show (⟨g, 0, none⟩ : Addr).add (i * sz + j) = ⟨g, i * sz + j, none⟩ from by simp only [Addr.add]; split <;> simp_all] at this
theorem own_less {w : World} {base base' : Nat} {e : TypeId} {size : Nat} {v : Value} {n : Nat} {xs : List Value} (h : w.ownsRow base e size v n xs) (hb : base' ≤ base) : w.ownsRow base' e size v n xs :=
  ⟨h.1, h.2.imp id fun ⟨g, cap, cur, h1, h2, h3⟩ => ⟨g, cap, cur, h1, Nat.le_trans hb h2, h3⟩⟩
/-- It stands where its block isn't written to. -/
theorem own_apart {O : Nat → Prop} {w w' : World} {base : Nat} {e : TypeId} {size : Nat} {v : Value} {n : Nat} {xs : List Value} (h : w.ownsRow base e size v n xs) (hA : Apart O w w') (hO : ∀ k, base ≤ k → ¬ O k) : w'.ownsRow base e size v n xs := by
  refine ⟨h.1, h.2.imp id fun ⟨g, cap, cur, h1, h2, h3, h4⟩ => ⟨g, cap, cur, h1, h2, ?_, h4⟩⟩
  have hl : g < w.heap.size := by
    rcases Nat.lt_or_ge g w.heap.size with h | h
    · exact h
    · rw [Array.getElem?_eq_none h] at h3; cases h3
  rw [hA.block g hl (hO g h2)]; exact h3
def relC (r : RelM) : List Value := [.int .i64 r.at_, .int .i64 r.kind, .string r.name, .int .i64 r.add]
theorem relC_len (r : RelM) : (relC r).length = 4 := rfl
theorem own_rels {w : World} {base : Nat} {e : TypeId} {v : Value} {l : List RelM} (h : w.ownsRow base e 4 v l.length (l.flatMap relC)) (hs : ∀ r ∈ l, r.name.size ≤ 255) : IsRels (fun k => base ≤ k ∧ k < w.heap.size) w v l :=
  own_lst relC_len h fun b o x hx hc => ⟨hc 0 _ rfl, hc 1 _ rfl, hc 2 _ rfl, hc 3 _ rfl, by have := hs x hx; unfold maxLen; omega⟩
def noteC (x : NoteM) : List Value := [.string x.name, .int .i64 x.kind]
theorem noteC_len (x : NoteM) : (noteC x).length = 2 := rfl
theorem own_notes {w : World} {base : Nat} {e : TypeId} {v : Value} {l : List NoteM} (h : w.ownsRow base e 2 v l.length (l.flatMap noteC)) (hs : ∀ r ∈ l, r.name.size ≤ 255) : IsNotes (fun k => base ≤ k ∧ k < w.heap.size) w v l :=
  own_lst noteC_len h fun b o x hx hc => ⟨hc 0 _ rfl, hc 1 _ rfl, by have := hs x hx; unfold maxLen; omega⟩
theorem cellsK_flat (k : IntKind) (l : List Int) : l.flatMap (fun x => [Value.int k x]) = l.map fun x => .int k x := by
  induction l with
  | nil => rfl
  | cons x l ih => simp [List.flatMap_cons, ih]
theorem own_words {w : World} {base : Nat} {e : TypeId} {v : Value} {l : List Int} (h : w.ownsRow base e 1 v l.length (l.map fun x => .int .u32 x)) (hs : Wrd l) : IsWords (fun k => base ≤ k ∧ k < w.heap.size) w v l :=
  ⟨own_lst (cells := fun x => [Value.int .u32 x]) (fun _ => rfl) (by rw [cellsK_flat]; exact h) fun b o x hx hc => hc 0 _ rfl, hs⟩
theorem own_bytesL {w : World} {base : Nat} {e : TypeId} {v : Value} {l : List Int} (h : w.ownsRow base e 1 v l.length (l.map fun x => .int .u8 x)) (hs : Byt l) : IsBytes (fun k => base ≤ k ∧ k < w.heap.size) w v l :=
  ⟨own_lst (cells := fun x => [Value.int .u8 x]) (fun _ => rfl) (by rw [cellsK_flat]; exact h) fun b o x hx hc => hc 0 _ rfl, hs⟩
theorem cellsK_map (k : IntKind) (l : List Int) : cellsK k l.length (gF l) = l.map fun x => .int k x := by
  refine List.ext_getElem? fun i => ?_
  by_cases h : i < l.length
  · rw [cellsK_get _ _ _ _ h, List.getElem?_map, gF_get h]; rfl
  · rw [List.getElem?_eq_none (by rw [cellsK_len]; omega), List.getElem?_eq_none (by rw [List.length_map]; omega)]
theorem nameR_size {s : St} (h : ∀ b, s = .good b → Byt b) : (nameR s).1.size ≤ 255 := by
  have hn : (nameR s).1 = textL (takeR (numR 1 s).1.toNat (numR 1 s).2).1 := rfl
  rw [hn, textL_size]
  have hb : 0 ≤ (numR 1 s).1 ∧ (numR 1 s).1 < 256 ^ 1 := by
    have hl : ((takeR 1 s).1).length = 1 := by
      cases s with
      | bad e => simp [takeR]
      | good b => unfold takeR; dsimp only; split <;> simp; omega
    have hy : Byt (takeR 1 s).1 := by
      cases s with
      | bad e => intro x hx; simp [takeR] at hx; omega
      | good b =>
        unfold takeR
        dsimp only
        split
        · exact fun x hx => h b rfl x (List.mem_of_mem_take hx)
        · intro x hx; simp at hx; omega
    have := sumL_bd _ hy
    rwa [hl] at this
  rw [p256_1] at hb
  have hl : ((takeR (numR 1 s).1.toNat (numR 1 s).2).1).length = (numR 1 s).1.toNat := by
    generalize (numR 1 s).1.toNat = n
    cases (numR 1 s).2 with
    | bad e => simp [takeR]
    | good b => unfold takeR; dsimp only; split <;> simp; omega
  rw [hl]; omega
end Go.Proofs.Ytlmijnaimdknnaa
