/- One data more behind all others, if it isn't Fixed. No condition. -/
import Derived.Test.YtlmijnaimdknnaaPlcApartM
import Derived.Test.YtlmijnaimdknnaaPlcMayQ
namespace Go.Proofs.Ytlmijnaimdknnaa
set_option linter.unusedVariables false
set_option linter.unusedSimpArgs false
theorem pass_snoc {fx : Bool} {l : List DatZ} {d : DatZ} {D : List Int} {z b : Int} (hD : D.length = l.length) : ∀ k : Nat, k ≤ l.length → passN fx (l ++ [d]) (D ++ [z]) b k = ((passN fx l D b k).1 ++ [z], (passN fx l D b k).2)
  | 0, _ => rfl
  | k + 1, hk => by
    have ih := pass_snoc (fx := fx) (d := d) (z := z) (b := b) hD k (by omega)
    have hl : (l ++ [d])[k]? = l[k]? := List.getElem?_append_left (by omega)
    obtain ⟨c, hc⟩ : ∃ c, l[k]? = some c := ⟨_, List.getElem?_eq_getElem (by omega)⟩
    rw [hc] at hl
    by_cases e : c.fixed = fx
    · rw [pass_step hl e, pass_step hc e, ih]
      dsimp only
      rw [List.set_append_left _ _ (by rw [pass_len]; omega)]
    · rw [pass_skip hl e, pass_skip hc e]; exact ih
theorem last_get (l : List DatZ) (d : DatZ) : (l ++ [d])[l.length]? = some d := by simp
theorem fix_snoc {l : List DatZ} {d : DatZ} (hd : d.fixed = false) : fixN (l ++ [d]) = ((fixN l).1 ++ [0], (fixN l).2) := by
  unfold fixN
  rw [List.length_append, List.length_singleton, List.replicate_succ', pass_skip (last_get l d) (by rw [hd]; simp)]
  exact pass_snoc (by simp) l.length (Nat.le_refl _)
theorem write_snoc {l : List DatZ} {d : DatZ} (hd : d.fixed = false) : writeZ (l ++ [d]) = writeZ l := by unfold writeZ; rw [fix_snoc hd]
theorem rest_snoc {l : List DatZ} {d : DatZ} (hd : d.fixed = false) : restN (l ++ [d]) = ((restN l).1 ++ [upA (restN l).2 d.align], upA (restN l).2 d.align + d.size) := by
  have h : restN (l ++ [d]) = passN false (l ++ [d]) ((fixN l).1 ++ [0]) (writeZ l) (l.length + 1) := by
    unfold restN; rw [fix_snoc hd, write_snoc hd, List.length_append, List.length_singleton]
  rw [h, pass_step (last_get l d) hd, pass_snoc (fix_len l) l.length (Nat.le_refl _)]
  have e : passN false l (fixN l).1 (writeZ l) l.length = restN l := rfl
  rw [e]
  dsimp only
  rw [List.set_append_right _ _ (by rw [rest_len]; exact Nat.le_refl _), rest_len, Nat.sub_self]
  rfl
/-- The program with one data more. -/
def moreP (p : ProgZ) (d : DatZ) : ProgZ := ⟨p.codes, p.datas ++ [d], p.entry⟩
theorem more_may {p : ProgZ} {d : DatZ} (h : MayZ p) (hd : 1 ≤ d.align ∧ d.align ≤ 16 ∧ 1 ≤ d.size ∧ d.size ≤ 4096) : MayQ (moreP p d) := by
  refine ⟨h.1, ?_, h.2.2.1, fun c hc => ?_⟩
  · show (p.datas ++ [d]).length ≤ 301
    rw [List.length_append, List.length_singleton]; have := h.2.1; omega
  · rcases List.mem_append.mp hc with hc | hc
    · exact h.2.2.2 c hc
    · rw [List.mem_singleton] at hc; subst hc; exact hd
/-- The plans of both. -/
theorem plan_more {p : ProgZ} {d : DatZ} {o : List Int} (hd : d.fixed = false) (h1 : 1 ≤ d.align) (ho : DatOk p.datas) (h0 : (planZ p o).1 = 0) : ∃ F DL T b w a, (planZ p o).2 = ⟨F, DL, T, b, w⟩ ∧ DL.length = p.datas.length ∧ b ≤ a ∧ a ≤ 65536 + d.align ∧ 0 ≤ a ∧
    ((planZ (moreP p d) o).1 = 8 ∨ ((planZ (moreP p d) o).1 = 0 ∧ (planZ (moreP p d) o).2 = ⟨F, DL ++ [a], T, a + d.size, w⟩)) := by
  obtain ⟨F, T, hc, he, hT, hb, hx⟩ := plan_is (p := p) (o := o) (x := (planZ p o).2) (by rw [← h0])
  have hu := up_facts (restN p.datas).2 d.align h1
  have hc' : codeN (moreP p d).codes o o.length = some (F, T) := hc
  have he' : 0 ≤ (moreP p d).entry ∧ (moreP p d).entry < (moreP p d).codes.length ∧ F[(moreP p d).entry.toNat]? ≠ some (-1) := he
  have hr : restN (moreP p d).datas = ((restN p.datas).1 ++ [upA (restN p.datas).2 d.align], upA (restN p.datas).2 d.align + d.size) := rest_snoc hd
  have hw : writeZ (moreP p d).datas = writeZ p.datas := write_snoc hd
  refine ⟨F, _, T, _, _, upA (restN p.datas).2 d.align, hx, rest_len _, hu.1, by omega, ?_, ?_⟩
  · have h2 := (pass_up ho (fx := false) (D := (fixN p.datas).1) (b := writeZ p.datas) p.datas.length).1
    have h3 := write_fix p.datas
    have h4 := write_nn ho
    have h5 : (restN p.datas).2 = (passN false p.datas (fixN p.datas).1 (writeZ p.datas) p.datas.length).2 := rfl
    omega
  · by_cases hl : 65536 < T ∨ 65536 < (restN (moreP p d).datas).2
    · exact .inl (by rw [plan_long hc' he' hl])
    · refine .inr ?_
      rw [plan_ok hc' he' hl, hr, hw]
      exact ⟨rfl, rfl⟩
end Go.Proofs.Ytlmijnaimdknnaa
