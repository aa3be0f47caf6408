/- What came in: texts, lists of acts. -/
import Derived.Test.YtgnokbmhbeeblaaScanActsC
import Derived.ChangeArms
import Derived.DataReads
namespace Go.Proofs.Ytgnokbmhbeeblaa
open Go.ChangeShapes Go.WideShapes Go.ChangeAt Go.RowKit
set_option linter.unusedVariables false
set_option linter.unusedSimpArgs false
/-- A text that came in. -/
theorem open_str {H : Type} {enc : TypeId × Value → H} {W : World} {r : Reach} {b0 base : Nat} {sp : Nat → Bool} {held : Bool} {t : TypeId} {v : Value} {d : DataW H} {p : List MemPlace} (ht : Try.prog.underlying t = some .string)
    (hv : Value.okWide Try.prog W r b0 t v) (h : DataW.Trod enc Try.prog W base sp held t v d p) : ∃ s : ByteArray, v = .string s ∧ s.size ≤ maxLen := by
  obtain ⟨s, rfl⟩ := okWide_string ht hv
  obtain ⟨fuel, hf⟩ := h
  obtain ⟨s', e, _, hs⟩ := DataW.trod_string ht hf
  simp [Value.cells] at e
  subst e
  exact ⟨s, rfl, hs⟩
theorem a3 : Try.prog.cellsOf 3 = 1 := by kernel_rfl
theorem aAct : Try.prog.cellsOf 26 = 2 := by kernel_rfl
theorem open_act {H : Type} {enc : TypeId × Value → H} {W : World} {base : Nat} {sp : Nat → Bool} {held : Bool} {fuel : Nat} {cs : List Value} {x : DataW H × List MemPlace}
    (h : DataW.trod enc Try.prog W base sp held fuel 26 cs = some x) : ∃ d n : Int, cs = [.int .i64 d, .int .i64 n] := by
  obtain ⟨xs, n, _, hx, hl, hlen, hfs⟩ := DataW.trod_struct Try.underlying26 h
  rw [aAct] at hl
  have hl2 : xs.length = 2 := hlen
  match cs, hl with
  | [c0, c1], _ =>
    have h0 : DataW.trod enc Try.prog W base sp held n 3 (List.take (Try.prog.cellsOf 3) [c0, c1]) = xs[0]? := hfs 0 _ rfl
    have h1 : DataW.trod enc Try.prog W base sp held n 3 (List.take (Try.prog.cellsOf 3) [c1]) = xs[1]? := hfs 1 _ rfl
    rw [a3, List.getElem?_eq_getElem (by omega)] at h0 h1
    obtain ⟨x0, e0, _, w0⟩ := DataW.trod_int Try.underlying3 h0
    obtain ⟨x1, e1, _, w1⟩ := DataW.trod_int Try.underlying3 h1
    simp at e0 e1
    subst e0 e1
    exact ⟨x0, x1, rfl⟩
/-- A list of acts that came in. -/
theorem open_acts {H : Type} {enc : TypeId × Value → H} {W : World} {r : Reach} {b0 base : Nat} {sp : Nat → Bool} {held : Bool} {v : Value} {d : DataW H} {p : List MemPlace}
    (hv : Value.okWide Try.prog W r b0 23 v) (h : DataW.Trod enc Try.prog W base sp held 23 v d p) : ∃ a len cap D X, v = .slice a len cap ∧ (len ≤ cap ∧ cap ≤ maxLen ∧ (a = none → cap = 0) ∧ Acts W a len D X) := by
  obtain ⟨a, len, cap, rfl⟩ := okWide_slice Try.underlying23 hv
  obtain ⟨fuel, hf⟩ := h
  rcases DataW.trod_slice Try.underlying23 hf with ⟨hcs, _⟩ | ⟨a', len', cap', elems, rest, n, _, hcs, _, hb, hl, hm, hlen, hel, _, _⟩
  · simp [Value.cells] at hcs
    obtain ⟨rfl, rfl, rfl⟩ := hcs
    exact ⟨none, 0, 0, fun _ => 0, fun _ => 0, rfl, Nat.le_refl _, Nat.zero_le _, fun _ => rfl, .inl rfl⟩
  · simp [Value.cells] at hcs
    obtain ⟨rfl, rfl, rfl⟩ := hcs
    have key : ∀ i, i < len → ∃ d x : Int, W.cell? (a'.add (i * 2)) = some (.int .i64 d) ∧ W.cell? ((a'.add (i * 2)).add 1) = some (.int .i64 x) := by
      intro i hi
      have h1 := hel i hi
      rw [List.getElem?_eq_getElem (by omega), Option.bind_eq_some_iff] at h1
      obtain ⟨cs, hc, ht⟩ := h1
      obtain ⟨d, x, rfl⟩ := open_act ht
      rw [aAct] at hc
      have h2 := World.cells?_some hc
      exact ⟨d, x, h2.2.2 0 (by omega) |>.trans rfl |> fun h => by simpa [Addr.add] using h, h2.2.2 1 (by omega)⟩
    by_cases h0 : len = 0
    · exact ⟨some a', len, cap, fun _ => 0, fun _ => 0, rfl, hl, hm, (fun e => by cases e), .inl h0⟩
    obtain ⟨b, off, spot⟩ := a'
    obtain ⟨d0, x0, c0, _⟩ := key 0 (by omega)
    have hspot : spot = none := by simpa [Addr.add] using World.cell?_spot c0
    subst hspot
    have ad : ∀ (b off i : Nat), (⟨b, off, none⟩ : Addr).add i = ⟨b, off + i, none⟩ := fun b off i => by cases i <;> simp [Addr.add]
    have key2 : ∀ i, i < len → ∃ d x : Int, W.cell? ⟨b, off + i * 2, none⟩ = some (.int .i64 d) ∧ W.cell? ⟨b, off + i * 2 + 1, none⟩ = some (.int .i64 x) := fun i hi => by
      obtain ⟨d, x, h1, h2⟩ := key i hi
      rw [ad] at h1
      rw [ad, ad] at h2
      exact ⟨d, x, h1, h2⟩
    refine ⟨some ⟨b, off, none⟩, len, cap, fun i => if h : i < len then (key2 i h).choose else 0, fun i => if h : i < len then (key2 i h).choose_spec.choose else 0, rfl, hl, hm, (fun e => by cases e), .inr ⟨b, off, rfl, fun i hi => ?_⟩⟩
    have h := (key2 i hi).choose_spec.choose_spec
    simp only [dif_pos hi]
    exact h
end Go.Proofs.Ytgnokbmhbeeblaa
