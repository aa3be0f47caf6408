/- Where a program's parts stand, over lists. No condition. -/
import Derived.Test.YtlmijnaimdknnaaObjKit
namespace Go.Proofs.Ytlmijnaimdknnaa
set_option linter.unusedVariables false
set_option linter.unusedSimpArgs false
/-- The least multiple that isn't below. -/
def upA (x a : Int) : Int := x + a - 1 - (x + a - 1) % a
theorem up_facts (x a : Int) (h : 1 ≤ a) : x ≤ upA x a ∧ upA x a ≤ x + a - 1 ∧ upA x a % a = 0 := by
  have r0 : 0 ≤ (x + a - 1) % a := Int.emod_nonneg _ (by omega)
  have r1 : (x + a - 1) % a < a := Int.emod_lt_of_pos _ (by omega)
  refine ⟨by unfold upA; omega, by unfold upA; omega, ?_⟩
  unfold upA
  rw [Int.sub_emod, Int.emod_emod, Int.sub_self, Int.zero_emod]
theorem up_least {x a y : Int} (h : 1 ≤ a) (hy : y % a = 0) (h1 : x ≤ y) (h2 : y ≤ x + a - 1) : upA x a = y := by
  obtain ⟨f1, f2, f3⟩ := up_facts x a h
  have h3 : (y - upA x a) % a = 0 := by rw [Int.sub_emod, hy, f3]; simp
  rcases Int.lt_trichotomy (y - upA x a) 0 with h4 | h4 | h4
  · have h5 : (y - upA x a + a) % a = y - upA x a + a := Int.emod_eq_of_lt (by omega) (by omega)
    rw [Int.add_emod_right, h3] at h5
    omega
  · omega
  · have h5 : (y - upA x a) % a = y - upA x a := Int.emod_eq_of_lt (by omega) (by omega)
    omega
theorem up_self {x a : Int} (h : 1 ≤ a) (hx : x % a = 0) : upA x a = x := up_least h hx (by omega) (by omega)
theorem up_next {x a : Int} (h : 1 ≤ a) (hx : x % a ≠ 0) : upA (x + 1) a = upA x a := by
  obtain ⟨f1, f2, f3⟩ := up_facts x a h
  have : upA x a ≠ x := fun e => hx (by rw [← e]; exact f3)
  exact up_least h f3 (by omega) (by omega)
/-- Data, as far as where they stand hangs on them; and the places of their bytes and relocations. -/
structure DatZ where
  align : Int
  fixed : Bool
  size : Int
  ba : Option Addr
  bn : Nat
  bc : Nat
  ra : Option Addr
  rn : Nat
  rc : Nat
structure ProgZ where
  codes : List Nat
  datas : List DatZ
  entry : Int
structure PlanZ where
  code : List Int
  data : List Int
  words : Int
  bytes : Int
  write : Int
def noPlan : PlanZ := ⟨[], [], 0, 0, 0⟩
/-- May they be, and are they few? -/
def MayZ (p : ProgZ) : Prop := p.codes.length ≤ 300 ∧ p.datas.length ≤ 300 ∧ (∀ n ∈ p.codes, n ≤ 70000) ∧ ∀ d ∈ p.datas, 1 ≤ d.align ∧ d.align ≤ 16 ∧ 1 ≤ d.size ∧ d.size ≤ 4096
/-- The first k of the data, those that are Fixed or the others, put behind one another. -/
def passN (fx : Bool) (l : List DatZ) (D : List Int) (b : Int) : Nat → List Int × Int
  | 0 => (D, b)
  | k + 1 => match l[k]? with
    | none => passN fx l D b k
    | some d => if d.fixed = fx then ((passN fx l D b k).1.set k (upA (passN fx l D b k).2 d.align), upA (passN fx l D b k).2 d.align + d.size) else passN fx l D b k
/-- The same, but nothing is put behind what is too long. -/
def passG (fx : Bool) (l : List DatZ) (D : List Int) (b : Int) : Nat → List Int × Int
  | 0 => (D, b)
  | k + 1 => match l[k]? with
    | none => passG fx l D b k
    | some d => if d.fixed = fx ∧ (passG fx l D b k).2 ≤ 65536 then ((passG fx l D b k).1.set k (upA (passG fx l D b k).2 d.align), upA (passG fx l D b k).2 d.align + d.size) else passG fx l D b k
def DatOk (l : List DatZ) : Prop := ∀ d ∈ l, 1 ≤ d.align ∧ d.align ≤ 16 ∧ 1 ≤ d.size ∧ d.size ≤ 4096
theorem pass_step {fx : Bool} {l : List DatZ} {D : List Int} {b : Int} {k : Nat} {d : DatZ} (h : l[k]? = some d) (e : d.fixed = fx) : passN fx l D b (k + 1) = ((passN fx l D b k).1.set k (upA (passN fx l D b k).2 d.align), upA (passN fx l D b k).2 d.align + d.size) := by
  simp only [passN, h, if_pos e]
theorem pass_skip {fx : Bool} {l : List DatZ} {D : List Int} {b : Int} {k : Nat} {d : DatZ} (h : l[k]? = some d) (e : ¬ d.fixed = fx) : passN fx l D b (k + 1) = passN fx l D b k := by
  simp only [passN, h, if_neg e]
theorem guard_step {fx : Bool} {l : List DatZ} {D : List Int} {b : Int} {k : Nat} {d : DatZ} (h : l[k]? = some d) (e : d.fixed = fx ∧ (passG fx l D b k).2 ≤ 65536) : passG fx l D b (k + 1) = ((passG fx l D b k).1.set k (upA (passG fx l D b k).2 d.align), upA (passG fx l D b k).2 d.align + d.size) := by
  simp only [passG, h, if_pos e]
theorem guard_skip {fx : Bool} {l : List DatZ} {D : List Int} {b : Int} {k : Nat} {d : DatZ} (h : l[k]? = some d) (e : ¬ (d.fixed = fx ∧ (passG fx l D b k).2 ≤ 65536)) : passG fx l D b (k + 1) = passG fx l D b k := by
  simp only [passG, h, if_neg e]
theorem pass_len {fx : Bool} {l : List DatZ} {D : List Int} {b : Int} : ∀ k, (passN fx l D b k).1.length = D.length
  | 0 => rfl
  | k + 1 => by
    simp only [passN]
    split
    · exact pass_len k
    · split
      · simp only [List.length_set]; exact pass_len k
      · exact pass_len k
theorem guard_len {fx : Bool} {l : List DatZ} {D : List Int} {b : Int} : ∀ k, (passG fx l D b k).1.length = D.length
  | 0 => rfl
  | k + 1 => by
    simp only [passG]
    split
    · exact guard_len k
    · split
      · simp only [List.length_set]; exact guard_len k
      · exact guard_len k
theorem pass_mono {fx : Bool} {l : List DatZ} (ho : DatOk l) {D : List Int} {b : Int} (k : Nat) : (passN fx l D b k).2 ≤ (passN fx l D b (k + 1)).2 ∧ (passN fx l D b (k + 1)).2 ≤ (passN fx l D b k).2 + 4112 := by
  cases h : l[k]? with
  | none => simp only [passN, h]; omega
  | some d =>
    obtain ⟨d1, d2, d3, d4⟩ := ho d (List.mem_of_getElem? h)
    by_cases e : d.fixed = fx
    · rw [pass_step h e]
      have := up_facts (passN fx l D b k).2 d.align d1
      dsimp only; omega
    · rw [pass_skip h e]; omega
theorem pass_up {fx : Bool} {l : List DatZ} (ho : DatOk l) {D : List Int} {b : Int} : ∀ k, b ≤ (passN fx l D b k).2 ∧ (passN fx l D b k).2 ≤ b + k * 4112
  | 0 => by simp [passN]
  | k + 1 => by
    have := pass_mono ho (fx := fx) (D := D) (b := b) k
    have := pass_up ho (fx := fx) (D := D) (b := b) k
    omega
theorem pass_le {fx : Bool} {l : List DatZ} (ho : DatOk l) {D : List Int} {b : Int} {j : Nat} : ∀ {k}, j ≤ k → (passN fx l D b j).2 ≤ (passN fx l D b k).2
  | 0, h => by obtain rfl : j = 0 := by omega
               omega
  | k + 1, h => by
    by_cases e : j = k + 1
    · subst e; omega
    · have := pass_le ho (fx := fx) (D := D) (b := b) (j := j) (k := k) (by omega)
      have := pass_mono ho (fx := fx) (D := D) (b := b) k
      omega
theorem guard_up {fx : Bool} {l : List DatZ} (ho : DatOk l) {D : List Int} {b B : Int} (hB : 69647 ≤ B) (hb : b ≤ B) : ∀ k, b ≤ (passG fx l D b k).2 ∧ (passG fx l D b k).2 ≤ B
  | 0 => by simp only [passG]; omega
  | k + 1 => by
    have ih := guard_up ho (fx := fx) (D := D) hB hb k
    cases h : l[k]? with
    | none => simp only [passG, h]; omega
    | some d =>
      obtain ⟨d1, d2, d3, d4⟩ := ho d (List.mem_of_getElem? h)
      by_cases e : d.fixed = fx ∧ (passG fx l D b k).2 ≤ 65536
      · rw [guard_step h e]
        have := up_facts (passG fx l D b k).2 d.align d1
        dsimp only; omega
      · rw [guard_skip h e]; omega
/-- What is put with a look at the length is as without, or both are too long. -/
theorem guard_is {fx : Bool} {l : List DatZ} (ho : DatOk l) {D : List Int} {b : Int} : ∀ k, ((passN fx l D b k).2 ≤ 65536 → passG fx l D b k = passN fx l D b k) ∧ (65536 < (passN fx l D b k).2 → 65536 < (passG fx l D b k).2)
  | 0 => ⟨fun _ => rfl, fun h => h⟩
  | k + 1 => by
    have ih := guard_is ho (fx := fx) (D := D) (b := b) k
    have mo := pass_mono ho (fx := fx) (D := D) (b := b) k
    cases h : l[k]? with
    | none => simp only [passG, passN, h]; exact ih
    | some d =>
      obtain ⟨d1, d2, d3, d4⟩ := ho d (List.mem_of_getElem? h)
      by_cases e : d.fixed = fx
      · rcases (by omega : 65536 < (passN fx l D b k).2 ∨ (passN fx l D b k).2 ≤ 65536) with hl | hl
        · have hg := ih.2 hl
          refine ⟨fun h1 => by omega, fun _ => ?_⟩
          rw [guard_skip h (by omega)]; exact hg
        · have hg := ih.1 hl
          rw [guard_step h ⟨e, by rw [hg]; exact hl⟩, pass_step h e, hg]
          exact ⟨fun _ => rfl, fun h => h⟩
      · rw [guard_skip h (fun q => e q.1), pass_skip h e]; exact ih
/-- All data: the Fixed ones, then the others. -/
def fixN (l : List DatZ) : List Int × Int := passN true l (List.replicate l.length 0) 0 l.length
def writeZ (l : List DatZ) : Int := upA (fixN l).2 16
def restN (l : List DatZ) : List Int × Int := passN false l (fixN l).1 (writeZ l) l.length
def fixG (l : List DatZ) : List Int × Int := passG true l (List.replicate l.length 0) 0 l.length
def writeG (l : List DatZ) : Int := upA (fixG l).2 16
def restG (l : List DatZ) : List Int × Int := passG false l (fixG l).1 (writeG l) l.length
theorem rest_is {l : List DatZ} (ho : DatOk l) : ((restN l).2 ≤ 65536 → restG l = restN l ∧ writeG l = writeZ l) ∧ (65536 < (restN l).2 → 65536 < (restG l).2) := by
  have h1 := guard_is ho (fx := true) (D := List.replicate l.length 0) (b := 0) l.length
  have h2 := up_facts (fixN l).2 16 (by omega)
  have h4 := up_facts (fixG l).2 16 (by omega)
  have h3 := pass_up ho (fx := false) (D := (fixN l).1) (b := writeZ l) l.length
  rcases (by omega : 65536 < (fixN l).2 ∨ (fixN l).2 ≤ 65536) with hl | hl
  · have hq : 65536 < (fixG l).2 := h1.2 hl
    refine ⟨fun h => by unfold restN at h; unfold writeZ at *; omega, fun _ => ?_⟩
    have : ∀ k, passG false l (fixG l).1 (writeG l) k = ((fixG l).1, writeG l) := fun k => by
      induction k with
      | zero => rfl
      | succ k ih =>
        cases h : l[k]? with
        | none => simp only [passG, h]; exact ih
        | some d => rw [guard_skip h (by rw [ih]; unfold writeG; dsimp only; omega)]; exact ih
    unfold restG
    rw [this]
    unfold writeG; dsimp only; omega
  · have hq : fixG l = fixN l := h1.1 hl
    have hw : writeG l = writeZ l := by unfold writeG writeZ; rw [hq]
    have h6 := guard_is ho (fx := false) (D := (fixN l).1) (b := writeZ l) l.length
    refine ⟨fun h => ⟨?_, hw⟩, fun h => ?_⟩
    · unfold restG; rw [hq, hw]; exact h6.1 h
    · unfold restG; rw [hq, hw]; exact h6.2 h
/-- The first i of the order: each function's first word, or -1, and how many words there are. -/
def codeN (c : List Nat) (o : List Int) : Nat → Option (List Int × Int)
  | 0 => some (List.replicate c.length (-1), 0)
  | i + 1 => match codeN c o i, o[i]? with
    | some s, some f => if 0 ≤ f ∧ f < c.length ∧ s.1[f.toNat]? = some (-1) then some (s.1.set f.toNat s.2, s.2 + c.getD f.toNat 0) else none
    | _, _ => none
theorem code_step {c : List Nat} {o : List Int} {i : Nat} {f : Int} {F : List Int} {w : Int} (h : codeN c o i = some (F, w)) (hf : o[i]? = some f) (h1 : 0 ≤ f) (h2 : f < c.length) (h3 : F[f.toNat]? = some (-1)) : codeN c o (i + 1) = some (F.set f.toNat w, w + c.getD f.toNat 0) := by
  simp only [codeN, h, hf]
  rw [if_pos ⟨h1, h2, h3⟩]
theorem code_none {c : List Nat} {o : List Int} {i : Nat} {f : Int} {F : List Int} {w : Int} (h : codeN c o i = some (F, w)) (hf : o[i]? = some f) (hn : ¬ (0 ≤ f ∧ f < c.length ∧ F[f.toNat]? = some (-1))) : codeN c o (i + 1) = none := by
  simp only [codeN, h, hf]
  rw [if_neg hn]
theorem code_stay {c : List Nat} {o : List Int} {i : Nat} (h : codeN c o i = none) : ∀ {k}, i ≤ k → codeN c o k = none
  | 0, hk => by obtain rfl : i = 0 := by omega
                exact h
  | k + 1, hk => by
    by_cases e : i = k + 1
    · subst e; exact h
    · have := code_stay h (k := k) (by omega)
      simp only [codeN, this]
theorem code_some {c : List Nat} {o : List Int} : ∀ {i : Nat} {F : List Int} {w : Int}, codeN c o i = some (F, w) → F.length = c.length ∧ 0 ≤ w ∧ ((∀ n ∈ c, n ≤ 70000) → w ≤ i * 70000)
  | 0, F, w, h => by
    simp only [codeN, Option.some.injEq, Prod.mk.injEq] at h
    obtain ⟨rfl, rfl⟩ := h
    simp
  | i + 1, F, w, h => by
    simp only [codeN] at h
    split at h
    next s f hs hf =>
      obtain ⟨F0, w0⟩ := s
      obtain ⟨i1, i2, i3⟩ := code_some hs
      split at h
      next hc =>
        simp only [Option.some.injEq, Prod.mk.injEq] at h
        obtain ⟨rfl, rfl⟩ := h
        refine ⟨by rw [List.length_set]; exact i1, by omega, fun hm => ?_⟩
        have := i3 hm
        have hlt : f.toNat < c.length := by omega
        have hmem := hm c[f.toNat] (List.getElem_mem hlt)
        rw [List.getD_eq_getElem?_getD, List.getElem?_eq_getElem hlt, Option.getD_some]
        omega
      next => cases h
    next => cases h
/-- The plan, or what is wrong. -/
def planZ (p : ProgZ) (o : List Int) : Int × PlanZ :=
  match codeN p.codes o o.length with
  | none => (1, noPlan)
  | some s => if 0 ≤ p.entry ∧ p.entry < p.codes.length ∧ s.1[p.entry.toNat]? ≠ some (-1) then
      (if 65536 < s.2 ∨ 65536 < (restN p.datas).2 then (8, noPlan) else (0, ⟨s.1, (restN p.datas).1, s.2, (restN p.datas).2, writeZ p.datas⟩))
    else (1, noPlan)
theorem plan_order {p : ProgZ} {o : List Int} (h : codeN p.codes o o.length = none) : planZ p o = (1, noPlan) := by simp only [planZ, h]
theorem plan_entry {p : ProgZ} {o : List Int} {F : List Int} {w : Int} (h : codeN p.codes o o.length = some (F, w)) (he : ¬ (0 ≤ p.entry ∧ p.entry < p.codes.length ∧ F[p.entry.toNat]? ≠ some (-1))) : planZ p o = (1, noPlan) := by
  simp only [planZ, h]
  rw [if_neg he]
theorem plan_long {p : ProgZ} {o : List Int} {F : List Int} {w : Int} (h : codeN p.codes o o.length = some (F, w)) (he : 0 ≤ p.entry ∧ p.entry < p.codes.length ∧ F[p.entry.toNat]? ≠ some (-1)) (hl : 65536 < w ∨ 65536 < (restN p.datas).2) : planZ p o = (8, noPlan) := by
  simp only [planZ, h]
  rw [if_pos he, if_pos hl]
theorem plan_ok {p : ProgZ} {o : List Int} {F : List Int} {w : Int} (h : codeN p.codes o o.length = some (F, w)) (he : 0 ≤ p.entry ∧ p.entry < p.codes.length ∧ F[p.entry.toNat]? ≠ some (-1)) (hl : ¬ (65536 < w ∨ 65536 < (restN p.datas).2)) : planZ p o = (0, ⟨F, (restN p.datas).1, w, (restN p.datas).2, writeZ p.datas⟩) := by
  simp only [planZ, h]
  rw [if_pos he, if_neg hl]
end Go.Proofs.Ytlmijnaimdknnaa
