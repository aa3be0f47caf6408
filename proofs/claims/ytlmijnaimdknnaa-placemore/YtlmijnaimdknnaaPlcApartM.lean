/- What follows of a plan: parts are apart. No condition. -/
import Derived.Test.YtlmijnaimdknnaaPlcMath
namespace Go.Proofs.Ytlmijnaimdknnaa
set_option linter.unusedVariables false
set_option linter.unusedSimpArgs false
theorem pass_keep {fx : Bool} {l : List DatZ} {D : List Int} {b : Int} {j : Nat} (h : ∀ d, l[j]? = some d → ¬ d.fixed = fx) : ∀ k, (passN fx l D b k).1[j]? = D[j]?
  | 0 => rfl
  | k + 1 => by
    cases hk : l[k]? with
    | none => simp only [passN, hk]; exact pass_keep h k
    | some d =>
      by_cases e : d.fixed = fx
      · rw [pass_step hk e]
        have hne : k ≠ j := fun q => h d (by rw [← q]; exact hk) e
        rw [List.getElem?_set_ne hne]; exact pass_keep h k
      · rw [pass_skip hk e]; exact pass_keep h k
theorem pass_at {fx : Bool} {l : List DatZ} {D : List Int} {b : Int} {j : Nat} {d : DatZ} (h : l[j]? = some d) (e : d.fixed = fx) (hD : D.length = l.length) : ∀ k, j < k → (passN fx l D b k).1[j]? = some (upA (passN fx l D b j).2 d.align)
  | 0, hk => by omega
  | k + 1, hk => by
    by_cases q : j = k
    · subst q
      rw [pass_step h e]
      exact List.getElem?_set_self (by rw [pass_len, hD]; exact (List.getElem?_eq_some_iff.1 h).1)
    · have ih := pass_at (b := b) h e hD k (by omega)
      cases hk2 : l[k]? with
      | none => simp only [passN, hk2]; exact ih
      | some d2 =>
        by_cases e2 : d2.fixed = fx
        · rw [pass_step hk2 e2, List.getElem?_set_ne (fun q' => q q'.symm)]; exact ih
        · rw [pass_skip hk2 e2]; exact ih
theorem fix_len (l : List DatZ) : (fixN l).1.length = l.length := by unfold fixN; rw [pass_len, List.length_replicate]
theorem rest_len (l : List DatZ) : (restN l).1.length = l.length := by unfold restN; rw [pass_len, fix_len]
theorem write_mul (l : List DatZ) : writeZ l % 16 = 0 := (up_facts (fixN l).2 16 (by omega)).2.2
theorem write_fix (l : List DatZ) : (fixN l).2 ≤ writeZ l := (up_facts (fixN l).2 16 (by omega)).1
theorem write_nn {l : List DatZ} (ho : DatOk l) : 0 ≤ (fixN l).2 := (pass_up ho l.length).1
/-- Where data stand. -/
theorem dat_fact {l : List DatZ} (ho : DatOk l) {j : Nat} {d : DatZ} (h : l[j]? = some d) : ∃ a, (restN l).1[j]? = some a ∧ 0 ≤ a ∧ a % d.align = 0 ∧ a + d.size ≤ (restN l).2 ∧ (d.fixed = true → a + d.size ≤ writeZ l) ∧ (d.fixed = false → writeZ l ≤ a) := by
  have hj := (List.getElem?_eq_some_iff.1 h).1
  obtain ⟨d1, d2, d3, d4⟩ := ho d (List.mem_of_getElem? h)
  have hw := write_fix l
  have hn := write_nn ho
  cases hf : d.fixed with
  | true =>
    have h1 := pass_at (b := 0) (D := List.replicate l.length 0) h hf (by simp) l.length hj
    have h2 := pass_keep (fx := false) (l := l) (D := (fixN l).1) (b := writeZ l) (j := j) (fun d' q => by rw [h] at q; cases q; rw [hf]; simp) l.length
    have h3 := pass_step (D := List.replicate l.length 0) (b := 0) h hf
    have h4 := pass_le ho (fx := true) (D := List.replicate l.length 0) (b := 0) (j := j + 1) (k := l.length) (by omega)
    have h5 := pass_up ho (fx := true) (D := List.replicate l.length 0) (b := 0) j
    have h6 := pass_up ho (fx := false) (D := (fixN l).1) (b := writeZ l) l.length
    have h7 := up_facts (passN true l (List.replicate l.length 0) 0 j).2 d.align d1
    rw [h3] at h4
    dsimp only at h4
    refine ⟨_, (h2.trans h1 : (restN l).1[j]? = _), by omega, h7.2.2, ?_, fun _ => ?_, (fun q => by cases q)⟩
    · have : writeZ l ≤ (restN l).2 := h6.1
      have : (passN true l (List.replicate l.length 0) 0 l.length).2 = (fixN l).2 := rfl
      omega
    · have : (passN true l (List.replicate l.length 0) 0 l.length).2 = (fixN l).2 := rfl
      omega
  | false =>
    have h1 := pass_at (b := writeZ l) (D := (fixN l).1) h hf (fix_len l) l.length hj
    have h3 := pass_step (D := (fixN l).1) (b := writeZ l) h hf
    have h4 := pass_le ho (fx := false) (D := (fixN l).1) (b := writeZ l) (j := j + 1) (k := l.length) (by omega)
    have h5 := pass_up ho (fx := false) (D := (fixN l).1) (b := writeZ l) j
    have h7 := up_facts (passN false l (fixN l).1 (writeZ l) j).2 d.align d1
    rw [h3] at h4
    dsimp only at h4
    exact ⟨_, (h1 : (restN l).1[j]? = _), by omega, h7.2.2, h4, (fun q => by cases q), fun _ => by omega⟩
/-- Two of the same kind stand in order. -/
theorem pass_order {fx : Bool} {l : List DatZ} (ho : DatOk l) {D : List Int} {b : Int} {i j : Nat} {c d : DatZ} (hi : l[i]? = some c) (hj : l[j]? = some d) (ec : c.fixed = fx) (ed : d.fixed = fx) (hij : i < j) :
    upA (passN fx l D b i).2 c.align + c.size ≤ upA (passN fx l D b j).2 d.align := by
  have h3 := pass_step (D := D) (b := b) hi ec
  have h4 := pass_le ho (fx := fx) (D := D) (b := b) (j := i + 1) (k := j) (by omega)
  rw [h3] at h4
  dsimp only at h4
  have := up_facts (passN fx l D b j).2 d.align (ho d (List.mem_of_getElem? hj)).1
  omega
theorem dat_is {l : List DatZ} {j : Nat} {d : DatZ} (h : l[j]? = some d) : (restN l).1[j]? = some (if d.fixed = true then upA (passN true l (List.replicate l.length 0) 0 j).2 d.align else upA (passN false l (fixN l).1 (writeZ l) j).2 d.align) := by
  have hj := (List.getElem?_eq_some_iff.1 h).1
  cases hf : d.fixed with
  | true =>
    have h1 := pass_at (b := 0) (D := List.replicate l.length 0) h hf (by simp) l.length hj
    have h2 := pass_keep (fx := false) (l := l) (D := (fixN l).1) (b := writeZ l) (j := j) (fun d' q => by rw [h] at q; cases q; rw [hf]; simp) l.length
    exact h2.trans h1
  | false => exact pass_at (b := writeZ l) (D := (fixN l).1) h hf (fix_len l) l.length hj
theorem dat_apart {l : List DatZ} (ho : DatOk l) {i j : Nat} {c d : DatZ} {a b : Int} (hi : l[i]? = some c) (hj : l[j]? = some d) (hij : i < j) (ha : (restN l).1[i]? = some a) (hb : (restN l).1[j]? = some b) : a + c.size ≤ b ∨ b + d.size ≤ a := by
  obtain ⟨a', ha', -, -, -, fa, ga⟩ := dat_fact ho hi
  obtain ⟨b', hb', -, -, -, fb, gb⟩ := dat_fact ho hj
  rw [ha] at ha'; rw [hb] at hb'
  obtain rfl := Option.some.inj ha'
  obtain rfl := Option.some.inj hb'
  rw [dat_is hi] at ha
  rw [dat_is hj] at hb
  have ha := Option.some.inj ha
  have hb := Option.some.inj hb
  cases hc : c.fixed <;> cases hd : d.fixed
  · rw [hc, if_neg (by decide)] at ha
    rw [hd, if_neg (by decide)] at hb
    rw [← ha, ← hb]
    exact .inl (pass_order ho hi hj hc hd hij)
  · exact .inr (by have := fb hd; have := ga hc; omega)
  · exact .inl (by have := fa hc; have := gb hd; omega)
  · rw [hc, if_pos rfl] at ha
    rw [hd, if_pos rfl] at hb
    rw [← ha, ← hb]
    exact .inl (pass_order ho hi hj hc hd hij)
/-- How many words the first k functions have that stand somewhere. -/
def usedN (c : List Nat) (F : List Int) : Nat → Int
  | 0 => 0
  | k + 1 => usedN c F k + (if 0 ≤ F.getD k (-1) then (c.getD k 0 : Int) else 0)
theorem used_set {c : List Nat} {F : List Int} {f : Nat} {w : Int} (hf : F[f]? = some (-1)) (hw : 0 ≤ w) : ∀ k, usedN c (F.set f w) k = usedN c F k + (if f < k then (c.getD f 0 : Int) else 0)
  | 0 => by simp [usedN]
  | k + 1 => by
    have ih := used_set (c := c) hf hw k
    have hlt := (List.getElem?_eq_some_iff.1 hf).1
    have hs : usedN c (F.set f w) (k + 1) = usedN c (F.set f w) k + (if 0 ≤ (F.set f w).getD k (-1) then (c.getD k 0 : Int) else 0) := rfl
    have hs2 : usedN c F (k + 1) = usedN c F k + (if 0 ≤ F.getD k (-1) then (c.getD k 0 : Int) else 0) := rfl
    rw [hs, hs2, ih]
    by_cases e : f = k
    · subst e
      have g1 : (F.set f w).getD f (-1) = w := by rw [List.getD_eq_getElem?_getD, List.getElem?_set_self hlt]; rfl
      have g2 : F.getD f (-1) = -1 := by rw [List.getD_eq_getElem?_getD, hf]; rfl
      rw [g1, g2, if_pos hw, if_neg (by omega), if_neg (by omega), if_pos (by omega)]
    · have g1 : (F.set f w).getD k (-1) = F.getD k (-1) := by rw [List.getD_eq_getElem?_getD, List.getElem?_set_ne e, ← List.getD_eq_getElem?_getD]
      have g3 : (if f < k + 1 then (c.getD f 0 : Int) else 0) = (if f < k then (c.getD f 0 : Int) else 0) := by
        by_cases h1 : f < k
        · rw [if_pos h1, if_pos (by omega)]
        · rw [if_neg h1, if_neg (by omega)]
      rw [g1, g3]; omega
theorem used_none (c : List Nat) (n : Nat) : ∀ k, usedN c (List.replicate n (-1)) k = 0
  | 0 => rfl
  | k + 1 => by
    simp only [usedN, used_none c n k]
    rw [if_neg]
    · rfl
    · rw [List.getD_eq_getElem?_getD, List.getElem?_replicate]
      split <;> simp
theorem used_up (c : List Nat) (F : List Int) : ∀ k, 0 ≤ usedN c F k
  | 0 => by simp [usedN]
  | k + 1 => by have := used_up c F k; simp only [usedN]; split <;> omega
theorem used_le {c : List Nat} (F : List Int) (h : ∀ n ∈ c, n ≤ 70000) : ∀ k : Nat, usedN c F k ≤ k * 70000
  | 0 => by simp [usedN]
  | k + 1 => by
    have ih := used_le F h k
    have hn : c.getD k 0 ≤ 70000 := by
      rw [List.getD_eq_getElem?_getD]
      cases hk : c[k]? with
      | none => simp
      | some n => exact h n (List.mem_of_getElem? hk)
    simp only [usedN]
    split <;> omega
theorem used_none' {c : List Nat} {F : List Int} {k : Nat} {a : Int} (h : F[k]? = some a) (ha : a < 0) : usedN c F (k + 1) = usedN c F k := by
  simp only [usedN]
  rw [List.getD_eq_getElem?_getD, h, Option.getD_some, if_neg (by omega)]; omega
theorem used_some {c : List Nat} {F : List Int} {k n : Nat} {a : Int} (h : F[k]? = some a) (hc : c[k]? = some n) (ha : 0 ≤ a) : usedN c F (k + 1) = usedN c F k + n := by
  simp only [usedN]
  rw [List.getD_eq_getElem?_getD, h, Option.getD_some, if_pos ha, List.getD_eq_getElem?_getD, hc]; rfl
/-- What a half order has come to. -/
theorem code_fact {c : List Nat} {o : List Int} : ∀ {i : Nat} {F : List Int} {w : Int}, codeN c o i = some (F, w) →
    usedN c F c.length = w ∧ (∀ (f : Nat) (a : Int) (n : Nat), F[f]? = some a → c[f]? = some n → a = -1 ∨ (0 ≤ a ∧ a + n ≤ w)) ∧ ∀ (f g : Nat) (a b : Int) (n m : Nat), f ≠ g → F[f]? = some a → F[g]? = some b → c[f]? = some n → c[g]? = some m → 0 ≤ a → 0 ≤ b → a + n ≤ b ∨ b + m ≤ a
  | 0, F, w, h => by
    simp only [codeN, Option.some.injEq, Prod.mk.injEq] at h
    obtain ⟨rfl, rfl⟩ := h
    refine ⟨used_none _ _ _, fun f a n hf _ => ?_, fun f g a b n m _ hf _ _ _ ha _ => ?_⟩
    · rw [List.getElem?_replicate] at hf
      split at hf
      · exact .inl (Option.some.inj hf).symm
      · cases hf
    · rw [List.getElem?_replicate] at hf
      split at hf
      · have := Option.some.inj hf; omega
      · cases hf
  | i + 1, F, w, h => by
    simp only [codeN] at h
    split at h
    next s f hs hf =>
      obtain ⟨F0, w0⟩ := s
      obtain ⟨u, v, x⟩ := code_fact hs
      obtain ⟨l1, l2, -⟩ := code_some hs
      split at h
      next hc =>
        simp only [Option.some.injEq, Prod.mk.injEq] at h
        obtain ⟨rfl, rfl⟩ := h
        obtain ⟨c1, c2, c3⟩ := hc
        dsimp only at c3
        obtain ⟨q, rfl⟩ : ∃ q : Nat, f = q := ⟨f.toNat, by omega⟩
        rw [Int.toNat_natCast] at *
        have hq : q < c.length := by omega
        have hcq : c[q]? = some c[q] := List.getElem?_eq_getElem hq
        have hgd : c.getD q 0 = c[q] := by rw [List.getD_eq_getElem?_getD, hcq]; rfl
        refine ⟨by rw [used_set c3 l2, u, if_pos hq], fun f a n h1 h2 => ?_, fun f g a b n m hne h1 h2 h3 h4 ha hb => ?_⟩
        · by_cases e : q = f
          · subst e
            rw [List.getElem?_set_self (by omega)] at h1
            rw [hcq] at h2
            have := Option.some.inj h1; have := Option.some.inj h2
            rw [hgd]; omega
          · rw [List.getElem?_set_ne e] at h1
            rcases v f a n h1 h2 with h | h
            · exact .inl h
            · exact .inr (by rw [hgd]; omega)
        · by_cases e : q = f
          · subst e
            rw [List.getElem?_set_self (by omega)] at h1
            rw [List.getElem?_set_ne hne] at h2
            have := Option.some.inj h1
            rcases v g b m h2 h4 with h | h <;> omega
          · rw [List.getElem?_set_ne e] at h1
            by_cases e2 : q = g
            · subst e2
              rw [List.getElem?_set_self (by omega)] at h2
              have := Option.some.inj h2
              rcases v f a n h1 h3 with h | h <;> omega
            · rw [List.getElem?_set_ne e2] at h2
              exact x f g a b n m hne h1 h2 h3 h4 ha hb
      next => cases h
    next => cases h
/-- A plan that there is. -/
theorem plan_is {p : ProgZ} {o : List Int} {x : PlanZ} (h : planZ p o = (0, x)) : ∃ F w, codeN p.codes o o.length = some (F, w) ∧ (0 ≤ p.entry ∧ p.entry < p.codes.length ∧ F[p.entry.toNat]? ≠ some (-1)) ∧ w ≤ 65536 ∧ (restN p.datas).2 ≤ 65536 ∧ x = ⟨F, (restN p.datas).1, w, (restN p.datas).2, writeZ p.datas⟩ := by
  unfold planZ at h
  split at h
  · simp at h
  next s hs =>
    split at h
    next he =>
      split at h
      · simp at h
      next hl =>
        simp only [Prod.mk.injEq, true_and] at h
        obtain ⟨F, w⟩ := s
        exact ⟨F, w, hs, he, by simp only at hl; omega, by simp only at hl; omega, h.symm⟩
    · simp at h
end Go.Proofs.Ytlmijnaimdknnaa
