/- All functions in one order or in another one. No condition. -/
import Derived.Test.YthhnmlhajfmhfaaPlcApartM
import Derived.Test.YthhnmlhajfmhfaaPlcAll
namespace Go.Proofs.Ythhnmlhajfmhfaa
set_option linter.unusedVariables false
set_option linter.unusedSimpArgs false
/-- How many words the first j of the order have. -/
def sumN (c : List Nat) (o : List Int) : Nat → Int
  | 0 => 0
  | j + 1 => sumN c o j + (match o[j]? with | some f => (c.getD f.toNat 0 : Int) | none => 0)
theorem sum_up (c : List Nat) (o : List Int) : ∀ j, 0 ≤ sumN c o j
  | 0 => by simp [sumN]
  | j + 1 => by
    have h1 := sum_up c o j
    cases h : o[j]? with
    | none => simp only [sumN, h]; omega
    | some f =>
      have h2 : (0 : Int) ≤ (c.getD f.toNat 0 : Nat) := Int.natCast_nonneg _
      simp only [sumN, h]; omega
theorem sum_step {c : List Nat} {o : List Int} {j n : Nat} {f : Nat} (h : o[j]? = some (f : Int)) (hc : c[f]? = some n) : sumN c o (j + 1) = sumN c o j + n := by
  simp only [sumN, h, Int.toNat_natCast]
  rw [List.getD_eq_getElem?_getD, hc]; rfl
/-- An order that has places alone, none twice. -/
theorem code_perm {c : List Nat} {o : List Int} (hr : ∀ (j : Nat) (f : Int), o[j]? = some f → 0 ≤ f ∧ f < c.length) (hd : ∀ (i j : Nat) (f : Int), o[i]? = some f → o[j]? = some f → i = j) : ∀ i : Nat, i ≤ o.length →
    ∃ F, codeN c o i = some (F, sumN c o i) ∧ F.length = c.length ∧ (∀ (j : Nat) (f : Int), j < i → o[j]? = some f → F[f.toNat]? = some (sumN c o j)) ∧ ∀ f : Nat, f < c.length → (∀ j : Nat, j < i → o[j]? ≠ some (f : Int)) → F[f]? = some (-1)
  | 0, _ => ⟨List.replicate c.length (-1), rfl, by simp, (fun j f hj => by omega), fun f hf _ => by rw [List.getElem?_replicate, if_pos hf]⟩
  | i + 1, hi => by
    obtain ⟨F, h1, h2, h3, h4⟩ := code_perm hr hd i (by omega)
    obtain ⟨f, hf⟩ : ∃ f, o[i]? = some f := ⟨_, List.getElem?_eq_getElem (by omega)⟩
    obtain ⟨f0, f1⟩ := hr i f hf
    obtain ⟨q, rfl⟩ : ∃ q : Nat, f = q := ⟨f.toNat, by omega⟩
    have hq : F[q]? = some (-1) := h4 q (by omega) (fun j hj e => by have := hd j i _ e hf; omega)
    refine ⟨F.set q (sumN c o i), ?_, by rw [List.length_set]; exact h2, fun j g hj hg => ?_, fun g hg hn => ?_⟩
    · have h := code_step h1 hf f0 f1 (by rw [Int.toNat_natCast]; exact hq)
      rw [Int.toNat_natCast] at h
      rw [h]
      simp only [sumN, hf, Int.toNat_natCast]
    · obtain ⟨g0, g1⟩ := hr j g hg
      by_cases e : g = (q : Int)
      · subst e
        have := hd j i _ hg hf
        subst this
        rw [Int.toNat_natCast]
        exact List.getElem?_set_self (by omega)
      · rw [List.getElem?_set_ne (by omega)]
        refine h3 j g ?_ hg
        have : j ≠ i := fun q' => e (by rw [q', hf] at hg; exact (Option.some.inj hg).symm)
        omega
    · have hne : q ≠ g := fun e => hn i (by omega) (by rw [hf, e])
      rw [List.getElem?_set_ne hne]
      exact h4 g hg fun j hj => hn j (by omega)
def totN (c : List Nat) : Nat → Int
  | 0 => 0
  | k + 1 => totN c k + (c.getD k 0 : Int)
theorem used_tot {c : List Nat} {F : List Int} : ∀ k, (∀ f, f < k → ∃ a, F[f]? = some a ∧ 0 ≤ a) → usedN c F k = totN c k
  | 0, _ => rfl
  | k + 1, h => by
    have ih := used_tot (c := c) k (fun f hf => h f (by omega))
    obtain ⟨a, ha, h0⟩ := h k (by omega)
    simp only [usedN, totN, ih]
    rw [List.getD_eq_getElem?_getD, ha, Option.getD_some, if_pos h0]
/-- An order of all: its first words, and how many words there are. -/
theorem code_all {c : List Nat} {o : List Int} (hr : ∀ (j : Nat) (f : Int), o[j]? = some f → 0 ≤ f ∧ f < c.length) (hd : ∀ (i j : Nat) (f : Int), o[i]? = some f → o[j]? = some f → i = j) (hs : ∀ f : Nat, f < c.length → ∃ j : Nat, o[j]? = some (f : Int)) :
    ∃ F, codeN c o o.length = some (F, totN c c.length) ∧ F.length = c.length ∧ (∀ (j : Nat) (f : Int), o[j]? = some f → F[f.toNat]? = some (sumN c o j)) ∧ ∀ f : Nat, f < c.length → F[f]? ≠ some (-1) := by
  obtain ⟨F, h1, h2, h3, -⟩ := code_perm hr hd o.length (Nat.le_refl _)
  have hF : ∀ (j : Nat) (f : Int), o[j]? = some f → F[f.toNat]? = some (sumN c o j) := fun j f h => h3 j f (List.getElem?_eq_some_iff.1 h).1 h
  have ha : ∀ f, f < c.length → ∃ a, F[f]? = some a ∧ 0 ≤ a := fun f hf => by
    obtain ⟨j, hj⟩ := hs f hf
    have := hF j _ hj
    rw [Int.toNat_natCast] at this
    exact ⟨_, this, sum_up c o j⟩
  have hu := (code_fact h1).1
  rw [used_tot _ ha] at hu
  exact ⟨F, by rw [h1, hu], h2, hF, fun f hf e => by obtain ⟨a, h, h0⟩ := ha f hf; rw [h] at e; have := Option.some.inj e; omega⟩
/-- From k on, and then those ahead. -/
def rotZ (n k : Nat) : List Int := (iotaZ n).drop k ++ (iotaZ n).take k
theorem rot_len {n k : Nat} (hk : k ≤ n) : (rotZ n k).length = n := by unfold rotZ; rw [List.length_append, List.length_drop, List.length_take, iota_len]; omega
theorem rot_get {n k j : Nat} (hk : k < n) (hj : j < n) : (rotZ n k)[j]? = some (((if j < n - k then k + j else j - (n - k)) : Nat) : Int) := by
  unfold rotZ
  by_cases h : j < n - k
  · rw [if_pos h, List.getElem?_append_left (by rw [List.length_drop, iota_len]; exact h), List.getElem?_drop, iota_get (by omega)]
  · rw [if_neg h, List.getElem?_append_right (by rw [List.length_drop, iota_len]; omega), List.length_drop, iota_len, List.getElem?_take, if_pos (by omega), iota_get (by omega)]
theorem rot_some {n k j : Nat} {f : Int} (hk : k < n) (h : (rotZ n k)[j]? = some f) : j < n ∧ f = (((if j < n - k then k + j else j - (n - k)) : Nat) : Int) := by
  have hj : j < n := by have := (List.getElem?_eq_some_iff.1 h).1; rw [rot_len (by omega)] at this; exact this
  rw [rot_get hk hj] at h
  exact ⟨hj, (Option.some.inj h).symm⟩
theorem rot_all {c : List Nat} {k : Nat} (hk : k < c.length) : ∃ F, codeN c (rotZ c.length k) (rotZ c.length k).length = some (F, totN c c.length) ∧ F.length = c.length ∧ (∀ (j : Nat) (f : Int), (rotZ c.length k)[j]? = some f → F[f.toNat]? = some (sumN c (rotZ c.length k) j)) ∧ ∀ f : Nat, f < c.length → F[f]? ≠ some (-1) := by
  refine code_all (fun j f h => ?_) (fun i j f h1 h2 => ?_) (fun f hf => ?_)
  · obtain ⟨h1, rfl⟩ := rot_some hk h
    split <;> omega
  · obtain ⟨g1, e1⟩ := rot_some hk h1
    obtain ⟨g2, e2⟩ := rot_some hk h2
    rw [e1] at e2
    split at e2 <;> split at e2 <;> omega
  · by_cases h : k ≤ f
    · exact ⟨f - k, by rw [rot_get hk (by omega), if_pos (by omega)]; congr 2; omega⟩
    · exact ⟨c.length - k + f, by rw [rot_get hk (by omega), if_neg (by omega)]; congr 2; omega⟩
theorem iota_rot (n : Nat) : iotaZ n = rotZ n 0 := by simp [rotZ]
/-- The plans of both orders. -/
theorem plan_rot {p : ProgZ} {k : Nat} (hk : k < p.codes.length) : ∃ F, F.length = p.codes.length ∧ (∀ (j : Nat) (f : Int), (rotZ p.codes.length k)[j]? = some f → F[f.toNat]? = some (sumN p.codes (rotZ p.codes.length k) j)) ∧
    planZ p (rotZ p.codes.length k) = if 0 ≤ p.entry ∧ p.entry < p.codes.length then (if 65536 < totN p.codes p.codes.length ∨ 65536 < (restN p.datas).2 then (8, noPlan) else (0, ⟨F, (restN p.datas).1, totN p.codes p.codes.length, (restN p.datas).2, writeZ p.datas⟩)) else (1, noPlan) := by
  obtain ⟨F, h1, h2, h3, h4⟩ := rot_all hk
  refine ⟨F, h2, h3, ?_⟩
  by_cases he : 0 ≤ p.entry ∧ p.entry < p.codes.length
  · rw [if_pos he]
    have he2 : 0 ≤ p.entry ∧ p.entry < p.codes.length ∧ F[p.entry.toNat]? ≠ some (-1) := ⟨he.1, he.2, h4 _ (by omega)⟩
    by_cases hl : 65536 < totN p.codes p.codes.length ∨ 65536 < (restN p.datas).2
    · rw [if_pos hl]; exact plan_long h1 he2 hl
    · rw [if_neg hl]; exact plan_ok h1 he2 hl
  · rw [if_neg he]
    exact plan_entry h1 (fun q => he ⟨q.1, q.2.1⟩)
theorem sum_le {c : List Nat} (o : List Int) (h : ∀ n ∈ c, n ≤ 70000) : ∀ k : Nat, sumN c o k ≤ k * 70000
  | 0 => by simp [sumN]
  | k + 1 => by
    have ih := sum_le o h k
    have hn : ∀ f, c.getD f 0 ≤ 70000 := fun f => by
      rw [List.getD_eq_getElem?_getD]
      cases hk : c[f]? with
      | none => simp
      | some n => exact h n (List.mem_of_getElem? hk)
    cases hk : o[k]? with
    | none => simp only [sumN, hk]; omega
    | some f => have := hn f.toNat; simp only [sumN, hk]; omega
theorem plan_two {p : ProgZ} {k : Nat} (hk : k < p.codes.length) : ∃ F2, F2.length = p.codes.length ∧ (∀ (j : Nat) (f : Int), (rotZ p.codes.length k)[j]? = some f → F2[f.toNat]? = some (sumN p.codes (rotZ p.codes.length k) j)) ∧
    (planZ p (rotZ p.codes.length k)).1 = (planZ p (iotaZ p.codes.length)).1 ∧ ((planZ p (iotaZ p.codes.length)).1 = 0 → ∃ F1 D T b w, (planZ p (iotaZ p.codes.length)).2 = ⟨F1, D, T, b, w⟩ ∧ (planZ p (rotZ p.codes.length k)).2 = ⟨F2, D, T, b, w⟩) := by
  obtain ⟨F1, -, -, h1⟩ := plan_rot (p := p) (k := 0) (by omega)
  obtain ⟨F2, l2, s2, h2⟩ := plan_rot hk
  rw [← iota_rot] at h1
  refine ⟨F2, l2, s2, ?_, ?_⟩
  · rw [h1, h2]
    split
    · split <;> rfl
    · rfl
  · rw [h1, h2]
    split
    · split
      · intro h; simp at h
      · intro _; exact ⟨_, _, _, _, _, rfl, rfl⟩
    · intro h; simp at h
end Go.Proofs.Ythhnmlhajfmhfaa
