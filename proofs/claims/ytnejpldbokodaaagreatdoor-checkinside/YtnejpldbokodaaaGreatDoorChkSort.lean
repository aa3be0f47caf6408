/- What is sorted and made compact is as long as before just where no two are alike. No condition. -/
import Derived.Lib.SlicesCompact
namespace Go.Proofs.YtnejpldbokodaaaGreatDoor
set_option linter.unusedVariables false
set_option linter.unusedSimpArgs false
theorem str_trans : ∀ a b c : List UInt8, decide (a ≤ b) = true → decide (b ≤ c) = true → decide (a ≤ c) = true := fun a b c h1 h2 => by simp only [decide_eq_true_eq] at *; exact List.le_trans h1 h2
theorem str_total : ∀ a b : List UInt8, (decide (a ≤ b) || decide (b ≤ a)) = true := fun a b => by simp only [Bool.or_eq_true, decide_eq_true_eq]; exact List.le_total a b
theorem compact_len (zs : List (List UInt8)) : (Go.Lib.compact zs).length = zs.length ↔ ∀ j, j + 1 < zs.length → zs[j + 1]? ≠ zs[j]? := by
  unfold Go.Lib.compact Go.Lib.compactUpTo
  rw [List.length_map]
  constructor
  · intro h j hj he
    have h1 : ((List.range zs.length).filter (Go.Lib.keeps zs.toArray)).length = (List.range zs.length).length := by rw [h]; simp
    rw [List.length_filter_eq_length_iff] at h1
    have h2 := h1 (j + 1) (by simp; omega)
    unfold Go.Lib.keeps at h2
    simp only [decide_eq_true_eq] at h2
    rcases h2 with h2 | h2
    · omega
    · refine h2 ?_
      rw [List.getElem?_eq_getElem hj, List.getElem?_eq_getElem (by omega)] at he
      simp only [Option.some.injEq] at he
      rw [Nat.add_sub_cancel, getElem!_pos _ (j + 1) (by simpa using hj), getElem!_pos _ j (by simp; omega)]
      simpa using he
  · intro h
    have h1 : ((List.range zs.length).filter (Go.Lib.keeps zs.toArray)).length = (List.range zs.length).length := by
      rw [List.length_filter_eq_length_iff]
      intro j hj
      have hj' : j < zs.length := by simpa using hj
      unfold Go.Lib.keeps
      simp only [decide_eq_true_eq]
      cases j with
      | zero => exact .inl rfl
      | succ j =>
        refine .inr fun he => h j hj' ?_
        rw [Nat.add_sub_cancel, getElem!_pos _ (j + 1) (by simpa using hj'), getElem!_pos _ j (by simp; omega)] at he
        rw [List.getElem?_eq_getElem hj', List.getElem?_eq_getElem (by omega)]
        simpa using he
    rw [h1]; simp
theorem sorted_nodup {l : List (List UInt8)} (hp : l.Pairwise (fun a b => decide (a ≤ b) = true)) : (∀ j, j + 1 < l.length → l[j + 1]? ≠ l[j]?) ↔ l.Nodup := by
  constructor
  · intro h
    rw [List.nodup_iff_pairwise_ne, List.pairwise_iff_getElem]
    rw [List.pairwise_iff_getElem] at hp
    intro i j hi hj hij he
    have h1 := hp i (i + 1) hi (by omega) (by omega)
    refine h i (by omega) ?_
    rw [List.getElem?_eq_getElem (by omega), List.getElem?_eq_getElem hi]
    congr 1
    simp only [decide_eq_true_eq] at h1
    refine List.le_antisymm ?_ h1
    by_cases e : i + 1 = j
    · subst e; rw [← he]; exact List.le_refl _
    · have h2 := hp (i + 1) j (by omega) hj (by omega)
      simp only [decide_eq_true_eq] at h2
      rw [he]; exact h2
  · intro h j hj he
    rw [List.nodup_iff_pairwise_ne, List.pairwise_iff_getElem] at h
    rw [List.getElem?_eq_getElem hj, List.getElem?_eq_getElem (by omega)] at he
    simp only [Option.some.injEq] at he
    exact h j (j + 1) (by omega) hj (by omega) he.symm
/-- Sorted and made compact: as long as before just where no two are alike. -/
theorem sort_compact (zs : List (List UInt8)) : (Go.Lib.compact (zs.mergeSort fun x y => decide (x ≤ y))).length = zs.length ↔ zs.Nodup := by
  have e : zs.length = (zs.mergeSort fun x y => decide (x ≤ y)).length := (List.length_mergeSort _).symm
  rw [e, compact_len, sorted_nodup (List.pairwise_mergeSort str_trans str_total zs)]
  exact (List.mergeSort_perm zs _).nodup_iff
end Go.Proofs.YtnejpldbokodaaaGreatDoor
