/- What came in: programs and orders. -/
import Derived.Test.YtlmijnaimdknnaaPlcKit
import Derived.ChangeArms
import Derived.DataReads
namespace Go.Proofs.Ytlmijnaimdknnaa
open Go.ChangeShapes Go.WideShapes Go.ChangeAt Go.RowKit
set_option linter.unusedVariables false
set_option linter.unusedSimpArgs false
set_option maxRecDepth 100000
section
variable {H : Type} {enc : TypeId × Value → H} {W : World} {base : Nat} {sp : Nat → Bool} {held : Bool}
/-- A list that came in, whose elements are opened. -/
theorem open_lst {α : Type} {t e : TypeId} {sz : Nat} (ht : Try.prog.underlying t = some (.slice e)) (hsz : Try.prog.cellsOf e = sz) (hz : 0 < sz) (el : Nat → Nat → α → Prop)
    (hE : ∀ fuel cs x, DataW.trod enc Try.prog W base sp held fuel e cs = some x → cs.length = sz → ∃ m, ∀ b o, (∀ j u, cs[j]? = some u → W.cell? ⟨b, o + j, none⟩ = some u) → el b o m)
    {fuel : Nat} {cs : List Value} {x : DataW H × List MemPlace} (h : DataW.trod enc Try.prog W base sp held fuel t cs = some x) : ∃ v l, cs = [v] ∧ LstA sz el (fun _ => True) v l := by
  rcases DataW.trod_slice ht h with ⟨hcs, _⟩ | ⟨a', len', cap', elems, rest, n, _, hcs, _, hb, hl, hm, hlen, hel, _, _⟩
  · exact ⟨_, [], hcs, LstA.nil⟩
  · rw [hsz] at hel
    have key : ∀ i, i < len' → ∃ m, ∀ b o, a' = ⟨b, o, none⟩ → el b (o + i * sz) m := by
      intro i hi
      have h1 := hel i hi
      rw [List.getElem?_eq_getElem (by omega), Option.bind_eq_some_iff] at h1
      obtain ⟨cs', hc, ht'⟩ := h1
      have h2 := World.cells?_some hc
      obtain ⟨m, hm'⟩ := hE _ _ _ ht' h2.2.1
      refine ⟨m, fun b o e => hm' b _ fun j u hu => ?_⟩
      have hj : j < sz := by have := (List.getElem?_eq_some_iff.1 hu).1; omega
      have h3 := h2.2.2 j hj
      rw [e] at h3
      have ad : ∀ (b off i : Nat), (⟨b, off, none⟩ : Addr).add i = ⟨b, off + i, none⟩ := fun b off i => by cases i <;> simp [Addr.add]
      rw [ad, ad] at h3
      exact h3.trans hu
    by_cases h0 : len' = 0
    · subst h0
      exact ⟨_, [], hcs, some a', cap', rfl, ⟨⟨hl, fun e => by cases e⟩, hm⟩, fun _ _ => trivial, .inl rfl⟩
    · have hspot : ∃ b o, a' = ⟨b, o, none⟩ := by
        have h1 := hel 0 (by omega)
        rw [List.getElem?_eq_getElem (by omega), Option.bind_eq_some_iff] at h1
        obtain ⟨cs', hc, ht'⟩ := h1
        have h2 := World.cells?_some hc
        obtain ⟨b, off, spot⟩ := a'
        have h3 := h2.2.2 0 hz
        rw [List.getElem?_eq_getElem (by have := h2.2.1; omega)] at h3
        have : spot = none := by simpa [Addr.add] using World.cell?_spot h3
        exact ⟨b, off, by rw [this]⟩
      obtain ⟨b, o, rfl⟩ := hspot
      have key2 : ∀ i, i < len' → ∃ m, el b (o + i * sz) m := fun i hi => by
        obtain ⟨m, hm'⟩ := key i hi
        exact ⟨m, hm' b o rfl⟩
      have hn : ∃ m : α, True := by obtain ⟨m, _⟩ := key2 0 (by omega); exact ⟨m, trivial⟩
      obtain ⟨m0, _⟩ := hn
      have hch : ∃ f : Nat → α, ∀ i, i < len' → el b (o + i * sz) (f i) := ⟨fun i => if h : i < len' then (key2 i h).choose else m0, fun i hi => by simp only [dif_pos hi]; exact (key2 i hi).choose_spec⟩
      obtain ⟨f, hf⟩ := hch
      refine ⟨_, (List.range len').map f, hcs, some ⟨b, o, none⟩, cap', by rw [List.length_map, List.length_range], ⟨⟨by rw [List.length_map, List.length_range]; exact hl, fun e => by cases e⟩, hm⟩, fun _ _ => trivial, .inr ⟨b, o, rfl, fun i x hx => ?_⟩⟩
      rw [List.getElem?_map] at hx
      have hi : i < len' := by
        rcases Nat.lt_or_ge i len' with h | h
        · exact h
        · rw [List.getElem?_eq_none (by simp; omega)] at hx; cases hx
      rw [List.getElem?_eq_getElem (by simp; omega)] at hx
      simp at hx
      subst hx
      exact hf i hi
theorem sl_form {t e : TypeId} (ht : Try.prog.underlying t = some (.slice e)) {fuel : Nat} {cs : List Value} {x : DataW H × List MemPlace} (h : DataW.trod enc Try.prog W base sp held fuel t cs = some x) : ∃ a n c, cs = [.slice a n c] ∧ n ≤ maxLen := by
  rcases DataW.trod_slice ht h with ⟨hcs, _⟩ | ⟨a', len', cap', elems, rest, n, _, hcs, _, hb, hl, hm, hlen, hel, _, _⟩
  · exact ⟨_, _, _, hcs, Nat.zero_le _⟩
  · exact ⟨_, _, _, hcs, Nat.le_trans hl hm⟩
theorem k_int : Try.prog.cellsOf 3 = 1 := by kernel_rfl
theorem k_str : Try.prog.cellsOf 9 = 1 := by kernel_rfl
theorem k_bool : Try.prog.cellsOf 4 = 1 := by kernel_rfl
theorem k_bytes : Try.prog.cellsOf 29 = 1 := by kernel_rfl
theorem k_words : Try.prog.cellsOf 42 = 1 := by kernel_rfl
theorem k_rels : Try.prog.cellsOf 30 = 1 := by kernel_rfl
theorem k_pfs : Try.prog.cellsOf 22 = 1 := by kernel_rfl
theorem k_pds : Try.prog.cellsOf 23 = 1 := by kernel_rfl
theorem open_nums {fuel : Nat} {cs : List Value} {x : DataW H × List MemPlace} (h : DataW.trod enc Try.prog W base sp held fuel 28 cs = some x) : ∃ v l, cs = [v] ∧ IsNums W v l :=
  open_lst (e := 3) (sz := 1) Try.underlying28 (by kernel_rfl) (by decide) (NumAt .i64 W) (fun fuel cs x h _ => by
    obtain ⟨n, e, _, hw⟩ := DataW.trod_int Try.underlying3 h
    subst e
    exact ⟨n, fun b o hc => hc 0 _ rfl⟩) h
theorem open_pfs {fuel : Nat} {cs : List Value} {x : DataW H × List MemPlace} (h : DataW.trod enc Try.prog W base sp held fuel 22 cs = some x) : ∃ v l, cs = [v] ∧ IsPfs W v l :=
  open_lst (e := 44) (sz := 5) Try.underlying22 (by kernel_rfl) (by decide) (PfAt W) (fun fuel cs x h hl => by
    obtain ⟨xs, n, _, hx, _, hlen, hfs⟩ := DataW.trod_struct Try.underlying44 h
    have hl2 : xs.length = 5 := hlen
    match cs, hl with
    | [c0, c1, c2, c3, c4], _ =>
      have h3 : DataW.trod enc Try.prog W base sp held n 42 (List.take (Try.prog.cellsOf 42) [c3, c4]) = xs[3]? := hfs 3 _ rfl
      have h4 : DataW.trod enc Try.prog W base sp held n 30 (List.take (Try.prog.cellsOf 30) [c4]) = xs[4]? := hfs 4 _ rfl
      rw [List.getElem?_eq_getElem (by omega)] at h3 h4
      rw [k_words] at h3
      rw [k_rels] at h4
      obtain ⟨a3, n3, k3, e3, l3⟩ := sl_form Try.underlying42 h3
      obtain ⟨a4, n4, k4, e4, l4⟩ := sl_form Try.underlying30 h4
      simp at e3 e4
      subst e3 e4
      exact ⟨n3, fun b o hc => ⟨_, _, _, _, _, hc 3 _ rfl, l3, hc 4 _ rfl, l4⟩⟩) h
theorem open_pds {fuel : Nat} {cs : List Value} {x : DataW H × List MemPlace} (h : DataW.trod enc Try.prog W base sp held fuel 23 cs = some x) : ∃ v l, cs = [v] ∧ IsPds W v l :=
  open_lst (e := 32) (sz := 5) Try.underlying23 (by kernel_rfl) (by decide) (PdAt W) (fun fuel cs x h hl => by
    obtain ⟨xs, n, _, hx, _, hlen, hfs⟩ := DataW.trod_struct Try.underlying32 h
    have hl2 : xs.length = 5 := hlen
    match cs, hl with
    | [c0, c1, c2, c3, c4], _ =>
      have h0 : DataW.trod enc Try.prog W base sp held n 3 (List.take (Try.prog.cellsOf 3) [c0, c1, c2, c3, c4]) = xs[0]? := hfs 0 _ rfl
      have h1 : DataW.trod enc Try.prog W base sp held n 4 (List.take (Try.prog.cellsOf 4) [c1, c2, c3, c4]) = xs[1]? := hfs 1 _ rfl
      have h2 : DataW.trod enc Try.prog W base sp held n 3 (List.take (Try.prog.cellsOf 3) [c2, c3, c4]) = xs[2]? := hfs 2 _ rfl
      have h3 : DataW.trod enc Try.prog W base sp held n 29 (List.take (Try.prog.cellsOf 29) [c3, c4]) = xs[3]? := hfs 3 _ rfl
      have h4 : DataW.trod enc Try.prog W base sp held n 30 (List.take (Try.prog.cellsOf 30) [c4]) = xs[4]? := hfs 4 _ rfl
      rw [List.getElem?_eq_getElem (by omega)] at h0 h1 h2 h3 h4
      rw [k_int] at h0 h2
      rw [k_bool] at h1
      rw [k_bytes] at h3
      rw [k_rels] at h4
      obtain ⟨x0, e0, _, _⟩ := DataW.trod_int Try.underlying3 h0
      obtain ⟨x1, e1, _⟩ := DataW.trod_bool Try.underlying4 h1
      obtain ⟨x2, e2, _, _⟩ := DataW.trod_int Try.underlying3 h2
      obtain ⟨a3, n3, k3, e3, l3⟩ := sl_form Try.underlying29 h3
      obtain ⟨a4, n4, k4, e4, l4⟩ := sl_form Try.underlying30 h4
      simp at e0 e1 e2 e3 e4
      subst e0 e1 e2 e3 e4
      exact ⟨⟨x0, x1, x2, a3, n3, k3, a4, n4, k4⟩, fun b o hc => ⟨hc 0 _ rfl, hc 1 _ rfl, hc 2 _ rfl, hc 3 _ rfl, hc 4 _ rfl, l3, l4⟩⟩) h
end
/-- A program that came in. -/
theorem open_prog {H : Type} {enc : TypeId × Value → H} {W : World} {r : Reach} {b0 base : Nat} {sp : Nat → Bool} {held : Bool} {v : Value} {d : DataW H} {p : List MemPlace}
    (hv : Value.okWide Try.prog W r b0 25 v) (h : DataW.Trod enc Try.prog W base sp held 25 v d p) : ∃ o : ProgZ, IsP W v o := by
  obtain ⟨cs, rfl, hsz⟩ := Go.WideShapes.okWide_struct Try.underlying25 hv
  obtain ⟨fuel, hf⟩ := h
  obtain ⟨xs, n, _, hx, hl, hlen, hfs⟩ := DataW.trod_struct Try.underlying25 hf
  have hc : Try.prog.cellsOf 25 = 3 := by kernel_rfl
  rw [hc] at hsz
  have hl2 : xs.length = 3 := hlen
  obtain ⟨l⟩ := cs
  have hl' : l.length = 3 := hsz
  match l, hl' with
  | [c0, c1, c2], _ =>
    have h0 : DataW.trod enc Try.prog W base sp held n 22 (List.take (Try.prog.cellsOf 22) [c0, c1, c2]) = xs[0]? := hfs 0 _ rfl
    have h1 : DataW.trod enc Try.prog W base sp held n 23 (List.take (Try.prog.cellsOf 23) [c1, c2]) = xs[1]? := hfs 1 _ rfl
    have h2 : DataW.trod enc Try.prog W base sp held n 3 (List.take (Try.prog.cellsOf 3) [c2]) = xs[2]? := hfs 2 _ rfl
    rw [List.getElem?_eq_getElem (by omega)] at h0 h1 h2
    rw [k_pfs] at h0
    rw [k_pds] at h1
    rw [k_int] at h2
    obtain ⟨v0, l0, e0, q0⟩ := open_pfs h0
    obtain ⟨v1, l1, e1, q1⟩ := open_pds h1
    obtain ⟨x2, e2, _, _⟩ := DataW.trod_int Try.underlying3 h2
    simp at e0 e1 e2
    subst e0 e1 e2
    exact ⟨⟨l0, l1, x2⟩, _, _, rfl, q0, q1⟩
/-- An order that came in. -/
theorem open_order {H : Type} {enc : TypeId × Value → H} {W : World} {r : Reach} {b0 base : Nat} {sp : Nat → Bool} {held : Bool} {v : Value} {d : DataW H} {p : List MemPlace}
    (hv : Value.okWide Try.prog W r b0 28 v) (h : DataW.Trod enc Try.prog W base sp held 28 v d p) : ∃ l : List Int, IsNums W v l := by
  obtain ⟨a0, l0, c0, rfl⟩ := Go.WideShapes.okWide_slice Try.underlying28 hv
  obtain ⟨fuel, hf⟩ := h
  obtain ⟨v', l, e, hl⟩ := open_nums hf
  simp [Value.cells] at e
  exact ⟨l, by rw [e]; exact hl⟩
end Go.Proofs.Ytlmijnaimdknnaa
