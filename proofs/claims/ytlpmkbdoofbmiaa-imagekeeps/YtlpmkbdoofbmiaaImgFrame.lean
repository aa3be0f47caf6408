/- What came in: images, bytes. -/
import Derived.Test.YtlpmkbdoofbmiaaImgWritesW
import Derived.ChangeArms
import Derived.DataReads
namespace Go.Proofs.Ytlpmkbdoofbmiaa
open Go.ChangeShapes Go.WideShapes Go.ChangeAt Go.RowKit
set_option linter.unusedVariables false
set_option linter.unusedSimpArgs false
theorem list_of_bytes {w : World} {a : Option Addr} {n c : Nat} {f : Nat → Int} (h : n ≤ c ∧ c ≤ maxLen ∧ (a = none → c = 0) ∧ Bytes w a n f) : IsBytes (fun _ => True) w (.slice a n c) ((List.range n).map f) := by
  have hl : ((List.range n).map f).length = n := by simp
  have hg : ∀ i, i < n → gF ((List.range n).map f) i = f i := fun i hi => by
    unfold gF
    rw [List.getD_eq_getElem?_getD, List.getElem?_map, List.getElem?_eq_getElem (by simp; omega)]
    simp
  have hb : Byt ((List.range n).map f) := fun x hx => by
    obtain ⟨i, _, rfl⟩ := List.mem_map.mp hx
    exact h.2.2.2.1 i
  have key := IsBytes.mk (A := fun _ => True) (w := w) (a := a) (c := c) (l := (List.range n).map f) ⟨by rw [hl]; exact h.1, h.2.2.1⟩ h.2.1 (fun _ _ => trivial) hb (by
    rw [hl]
    exact ⟨gF_byt hb, h.2.2.2.2.imp id fun ⟨b, off, e, hc⟩ => ⟨b, off, e, fun i hi => by rw [hg i hi]; exact hc i hi⟩⟩)
  rwa [hl] at key
theorem list_of_words {w : World} {a : Option Addr} {n c : Nat} {f : Nat → Int} (h : n ≤ c ∧ c ≤ maxLen ∧ (a = none → c = 0) ∧ RowK .u32 w a n f) : IsWords (fun _ => True) w (.slice a n c) ((List.range n).map f) := by
  have hl : ((List.range n).map f).length = n := by simp
  refine ⟨⟨a, c, by rw [hl], ⟨⟨by rw [hl]; exact h.1, h.2.2.1⟩, h.2.1⟩, fun _ _ => trivial, ?_⟩, fun x hx => ?_⟩
  · rcases h.2.2.2.2 with h0 | ⟨b, off, e, hc⟩
    · exact .inl (List.eq_nil_of_length_eq_zero (by rw [hl]; exact h0))
    · refine .inr ⟨b, off, e, fun i x hx => ?_⟩
      rw [List.getElem?_map] at hx
      rcases Nat.lt_or_ge i n with hi | hi
      · rw [List.getElem?_range hi] at hx
        cases hx
        show w.cell? _ = _
        rw [Nat.mul_one]; exact hc i hi
      · rw [List.getElem?_eq_none (by simp; omega)] at hx; cases hx
  · obtain ⟨i, _, rfl⟩ := List.mem_map.mp hx
    exact wf_u32_bd (h.2.2.2.1 i)
theorem open_img {H : Type} {enc : TypeId × Value → H} {W : World} {r0 : Reach} {b0 base : Nat} {held : Bool} {v : Value} {d : DataW H} {p : List MemPlace}
    (hv : Value.okWide Try.prog W r0 b0 25 v) (h : DataW.Trod enc Try.prog W base (fun _ => true) held 25 v d p) : ∃ o, IsImg (fun _ => True) W v o := by
  obtain ⟨ca, cn, cc, cf, en, da, dn, dc, df, wt, mo, rfl, hc, -, hd, -, -⟩ := open_image hv h
  exact ⟨⟨(List.range cn).map cf, en, (List.range dn).map df, wt, mo⟩, _, _, rfl, list_of_words hc, list_of_bytes hd⟩
end Go.Proofs.Ytlpmkbdoofbmiaa
