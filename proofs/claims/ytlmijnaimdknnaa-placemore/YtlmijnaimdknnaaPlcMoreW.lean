/- PlaceMore's walk. -/
import Derived.Test.YtlmijnaimdknnaaPlcLaw
import Derived.Test.YtlmijnaimdknnaaPlcSame
import Derived.Test.YtlmijnaimdknnaaPlcMoreM
import Derived.Test.YtlmijnaimdknnaaAppends
import Derived.Test.YtlmijnaimdknnaaObjOwn
import Derived.Deep.RegionLaw
namespace Go.Proofs.Ytlmijnaimdknnaa
open Go.ChangeShapes Go.WideShapes Go.ChangeAt Go.RowKit
set_option linter.unusedVariables false
set_option linter.unusedSimpArgs false
/-- A data's cells. -/
def dCs (d : DatZ) : List Value := [.int .i64 d.align, .bool d.fixed, .int .i64 d.size, .slice d.ba d.bn d.bc, .slice d.ra d.rn d.rc]
theorem dCs_len (d : DatZ) : (dCs d).length = 5 := rfl
theorem dCs_one (l : List DatZ) : ∀ u ∈ l.flatMap dCs, u.oneCell' = true := fun u hu => by
  obtain ⟨d, -, h⟩ := List.mem_flatMap.mp hu
  simp only [dCs, List.mem_cons, List.not_mem_nil, or_false] at h
  rcases h with rfl | rfl | rfl | rfl | rfl <;> rfl
theorem pds_src {W : World} {a : Option Addr} {n c : Nat} {l : List DatZ} (h : IsPds W (.slice a n c) l) : ∀ ad, a = some ad → ∀ j u, (l.flatMap dCs)[j]? = some u → W.cell? (ad.add j) = some u := fun ad e j u hu => by
  obtain ⟨a', c', hv, -, -, hl⟩ := h
  simp only [Value.slice.injEq] at hv
  obtain ⟨rfl, -, -⟩ := hv
  have hj : j < l.length * 5 := by have := get_lt hu; rwa [flat_len dCs_len] at this
  rcases hl with rfl | ⟨b, off, e', hc⟩
  · simp at hj
  · rw [e'] at e
    simp only [Option.some.injEq] at e
    subst e
    have hi : j / 5 < l.length := by omega
    obtain ⟨d, hd⟩ := get_some hi
    obtain ⟨v, hv⟩ := get_some (l := dCs d) (k := j % 5) (by rw [dCs_len]; omega)
    have h1 := flat_get dCs_len l (j / 5) d hd (j % 5) v hv
    rw [show j / 5 * 5 + j % 5 = j by omega, hu] at h1
    obtain rfl := Option.some.inj h1
    obtain ⟨x0, x1, x2, x3, x4, -, -⟩ := hc _ _ hd
    rw [show (⟨b, off, none⟩ : Addr).add j = ⟨b, off + j / 5 * 5 + j % 5, none⟩ from by rw [show off + j / 5 * 5 + j % 5 = off + j by omega]; cases j <;> simp [Addr.add]]
    have hr : j % 5 < 5 := Nat.mod_lt _ (by omega)
    generalize j % 5 = r at hv hr ⊢
    match r, hr with
    | 0, _ => simp [dCs] at hv; subst hv; exact x0
    | 1, _ => simp [dCs] at hv; subst hv; exact x1
    | 2, _ => simp [dCs] at hv; subst hv; exact x2
    | 3, _ => simp [dCs] at hv; subst hv; exact x3
    | 4, _ => simp [dCs] at hv; subst hv; exact x4
theorem pds_own {w : World} {base n c : Nat} {a : Option Addr} {l : List DatZ} (h : w.ownsRow base 32 5 (.slice a n c) n (l.flatMap dCs)) (hl : ∀ d ∈ l, d.bn ≤ maxLen ∧ d.rn ≤ maxLen) : IsPds w (.slice a n c) l := by
  have hn : l.length = n := by have := h.1; rw [flat_len dCs_len] at this; omega
  subst hn
  refine LstA.map (own_lst (el := fun b o d => (∀ j v, (dCs d)[j]? = some v → w.cell? ⟨b, o + j, none⟩ = some v)) dCs_len h ?_) (fun _ _ => trivial) (fun b o d _ hm hc => ⟨hc 0 _ rfl, hc 1 _ rfl, hc 2 _ rfl, hc 3 _ rfl, hc 4 _ rfl, hl d hm⟩)
  intro b o x hx hc
  exact hc
theorem pdI : (Try.prog.info? 32).map (fun i => (i.zero, i.size, i.bytes)) = some (some (.agg #[.int .i64 0, .bool false, .int .i64 0, .slice none 0 0, .slice none 0 0]), 5, 72) := by kernel_rfl
end Go.Proofs.Ytlmijnaimdknnaa
