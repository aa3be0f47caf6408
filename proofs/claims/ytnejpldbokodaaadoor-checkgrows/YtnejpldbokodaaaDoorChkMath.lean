/- Is an object right? What is asked of functions, data and objects, over lists, and the first error. No condition. -/
import Derived.Test.YtnejpldbokodaaaDoorObjMath
import Derived.Test.YtnejpldbokodaaaDoorCodePG
import Derived.Test.YtnejpldbokodaaaDoorFlowKind
namespace Go.Proofs.YtnejpldbokodaaaDoor
open Go.RowKit
set_option linter.unusedVariables false
set_option linter.unusedSimpArgs false
/-! ### Functions -/
/-- The relocation goes with an instruction of that operation and number. -/
def goesB (r : RelM) (op imm : Int) : Bool := decide (imm = 0 ∧ (r.kind = 1 ∧ (op = 20 ∨ op = 19) ∧ r.add = 0 ∨ r.kind = 2 ∧ op = 9 ∨ r.kind = 3 ∧ op = 10))
/-- A relocation has the place. -/
def hasB (l : List RelM) (k : Nat) : Bool := l.any fun r => decide (r.at_ = (k : Int))
/-- The place of the relocation ahead of the i-th. -/
def aheadZ (l : List RelM) : Nat → Int
  | 0 => -1
  | i + 1 => match l[i]? with
    | some r => r.at_
    | none => -1
/-- A relocation is right, the one ahead of it having the place a. -/
def relAtOk (c : List Int) (a : Int) (r : RelM) : Prop := a < r.at_ ∧ r.at_ < c.length ∧ goesB r (gO (c.getD r.at_.toNat 0)) (gI (c.getD r.at_.toNat 0)) = true
def relsUpto (c : List Int) (l : List RelM) (n : Nat) : Prop := ∀ i r, i < n → l[i]? = some r → relAtOk c (aheadZ l i) r
def resolvedUpto (c : List Int) (l : List RelM) (n : Nat) : Prop := ∀ k x, k < n → c[k]? = some x → gO x = 20 → hasB l k = true
/-- An instruction that may lead elsewhere leads into the code. -/
def insideAt (c : List Int) (l : List RelM) (k : Nat) (x : Int) : Prop := (kindZ (gO x) = 2 ∨ kindZ (gO x) = 3) → hasB l k = false → 0 ≤ (k : Int) + 1 + gI x ∧ (k : Int) + 1 + gI x < c.length
def insideUpto (c : List Int) (l : List RelM) (n : Nat) : Prop := ∀ k x, k < n → c[k]? = some x → insideAt c l k x
def codesOk (c : List Int) : Prop := ∀ x ∈ c, okG x = true
def lastOk (c : List Int) : Prop := ∀ x, c[c.length - 1]? = some x → kindZ (gO x) = 3 ∨ kindZ (gO x) = 5
def bindOk (b : Int) : Prop := b = 1 ∨ b = 2 ∨ b = 3
open Classical in
/-- The first error of a function. -/
noncomputable def fnE (f : FuncM) : Int :=
  if ¬ (bindOk f.bind ∧ f.code ≠ []) then 4
  else if ¬ codesOk f.code then 3
  else if ¬ (relsUpto f.code f.rels f.rels.length ∧ resolvedUpto f.code f.rels f.code.length) then 4
  else if ¬ insideUpto f.code f.rels f.code.length then 7
  else if ¬ lastOk f.code then 4 else 0
theorem fnE_bind {f : FuncM} (h : ¬ (bindOk f.bind ∧ f.code ≠ [])) : fnE f = 4 := by unfold fnE; rw [if_pos h]
theorem fnE_code {f : FuncM} (h : bindOk f.bind ∧ f.code ≠ []) (h1 : ¬ codesOk f.code) : fnE f = 3 := by unfold fnE; rw [if_neg (not_not_intro h), if_pos h1]
theorem fnE_rels {f : FuncM} (h : bindOk f.bind ∧ f.code ≠ []) (h1 : codesOk f.code) (h2 : ¬ (relsUpto f.code f.rels f.rels.length ∧ resolvedUpto f.code f.rels f.code.length)) : fnE f = 4 := by
  unfold fnE; rw [if_neg (not_not_intro h), if_neg (not_not_intro h1), if_pos h2]
theorem fnE_inside {f : FuncM} (h : bindOk f.bind ∧ f.code ≠ []) (h1 : codesOk f.code) (h2 : relsUpto f.code f.rels f.rels.length ∧ resolvedUpto f.code f.rels f.code.length) (h3 : ¬ insideUpto f.code f.rels f.code.length) : fnE f = 7 := by
  unfold fnE; rw [if_neg (not_not_intro h), if_neg (not_not_intro h1), if_neg (not_not_intro h2), if_pos h3]
theorem fnE_last {f : FuncM} (h : bindOk f.bind ∧ f.code ≠ []) (h1 : codesOk f.code) (h2 : relsUpto f.code f.rels f.rels.length ∧ resolvedUpto f.code f.rels f.code.length) (h3 : insideUpto f.code f.rels f.code.length) (h4 : ¬ lastOk f.code) : fnE f = 4 := by
  unfold fnE; rw [if_neg (not_not_intro h), if_neg (not_not_intro h1), if_neg (not_not_intro h2), if_neg (not_not_intro h3), if_pos h4]
theorem fnE_ok {f : FuncM} (h : bindOk f.bind ∧ f.code ≠ []) (h1 : codesOk f.code) (h2 : relsUpto f.code f.rels f.rels.length ∧ resolvedUpto f.code f.rels f.code.length) (h3 : insideUpto f.code f.rels f.code.length) (h4 : lastOk f.code) : fnE f = 0 := by
  unfold fnE; rw [if_neg (not_not_intro h), if_neg (not_not_intro h1), if_neg (not_not_intro h2), if_neg (not_not_intro h3), if_neg (not_not_intro h4)]
theorem fnE_right {f : FuncM} (h : fnE f = 0) : (bindOk f.bind ∧ f.code ≠ []) ∧ codesOk f.code ∧ (relsUpto f.code f.rels f.rels.length ∧ resolvedUpto f.code f.rels f.code.length) ∧ insideUpto f.code f.rels f.code.length ∧ lastOk f.code := by
  unfold fnE at h
  split at h
  · exact absurd h (by decide)
  split at h
  · exact absurd h (by decide)
  split at h
  · exact absurd h (by decide)
  split at h
  · exact absurd h (by decide)
  split at h
  · exact absurd h (by decide)
  simp only [Classical.not_not] at *
  exact ⟨‹_›, ‹_›, ‹_›, ‹_›, ‹_›⟩
theorem fnE_bd (f : FuncM) : fnE f = 0 ∨ fnE f = 3 ∨ fnE f = 4 ∨ fnE f = 7 := by
  unfold fnE
  repeat' split
  all_goals simp
/-- The prefix grows by one. -/
theorem relsUpto_next {c : List Int} {l : List RelM} {k : Nat} {r : RelM} (h : relsUpto c l k) (hr : l[k]? = some r) (hk : relAtOk c (aheadZ l k) r) : relsUpto c l (k + 1) := fun i q hi hq => by
  rcases (by omega : i < k ∨ i = k) with h1 | rfl
  · exact h i q h1 hq
  · rw [hr] at hq; cases hq; exact hk
theorem resolvedUpto_next {c : List Int} {l : List RelM} {k : Nat} {x : Int} (h : resolvedUpto c l k) (hx : c[k]? = some x) (hk : gO x = 20 → hasB l k = true) : resolvedUpto c l (k + 1) := fun i y hi hy => by
  rcases (by omega : i < k ∨ i = k) with h1 | rfl
  · exact h i y h1 hy
  · rw [hx] at hy; cases hy; exact hk
theorem insideUpto_next {c : List Int} {l : List RelM} {k : Nat} {x : Int} (h : insideUpto c l k) (hx : c[k]? = some x) (hk : insideAt c l k x) : insideUpto c l (k + 1) := fun i y hi hy => by
  rcases (by omega : i < k ∨ i = k) with h1 | rfl
  · exact h i y h1 hy
  · rw [hx] at hy; cases hy; exact hk
theorem ahead_succ {l : List RelM} {i : Nat} {r : RelM} (h : l[i]? = some r) : aheadZ l (i + 1) = r.at_ := by show (match l[i]? with | some r => r.at_ | none => -1) = _; rw [h]
/-- Where those ahead are right the place ahead is -1, or one of the code. -/
theorem ahead_bd {c : List Int} {l : List RelM} {k : Nat} (h : relsUpto c l k) (hk : k ≤ l.length) : -1 ≤ aheadZ l k ∧ (0 < k → 0 ≤ aheadZ l k) ∧ aheadZ l k < (c.length : Int) ∨ aheadZ l k = -1 ∧ k = 0 := by
  cases k with
  | zero => exact .inr ⟨rfl, rfl⟩
  | succ k =>
    left
    induction k with
    | zero =>
      obtain ⟨r, hr⟩ : ∃ r, l[0]? = some r := ⟨_, List.getElem?_eq_getElem (by omega)⟩
      have h0 := h 0 r (by omega) hr
      rw [ahead_succ hr]
      have e : aheadZ l 0 = -1 := rfl
      unfold relAtOk at h0; rw [e] at h0
      exact ⟨by omega, fun _ => by omega, h0.2.1⟩
    | succ k ih =>
      have ih := ih (fun i r hi hr => h i r (by omega) hr) (by omega)
      obtain ⟨r, hr⟩ : ∃ r, l[k + 1]? = some r := ⟨_, List.getElem?_eq_getElem (by omega)⟩
      have h0 := h (k + 1) r (by omega) hr
      rw [ahead_succ hr]
      have := ih.2.1 (by omega)
      unfold relAtOk at h0
      exact ⟨by omega, fun _ => by omega, h0.2.1⟩
theorem has_take {l : List RelM} {n k : Nat} {r : RelM} (hr : l[n]? = some r) : hasB (l.take (n + 1)) k = (hasB (l.take n) k || decide (r.at_ = (k : Int))) := by
  unfold hasB
  rw [List.take_add_one, hr]
  simp
theorem has_all {l : List RelM} {k : Nat} : hasB (l.take l.length) k = hasB l k := by rw [List.take_length]
/-! ### Data -/
def leastZ (l : List RelM) : Nat → Int
  | 0 => 0
  | i + 1 => match l[i]? with
    | some r => r.at_ + 4
    | none => 0
def drelOk (size : Int) (a : Int) (r : RelM) : Prop := r.kind = 4 ∧ a ≤ r.at_ ∧ r.at_ ≤ size - 4
def drelsUpto (size : Int) (l : List RelM) (n : Nat) : Prop := ∀ i r, i < n → l[i]? = some r → drelOk size (leastZ l i) r
def rdataOk (d : DataM) : Prop := (1 ≤ d.bind ∧ d.bind ≤ 4) ∧ (d.align = 1 ∨ d.align = 2 ∨ d.align = 4 ∨ d.align = 8 ∨ d.align = 16) ∧ (1 ≤ d.size ∧ d.size ≤ 4096 ∧ (d.bytes.length : Int) ≤ d.size) ∧
  (d.bind = 4 → d.fixed = false ∧ d.bytes.length = 0 ∧ d.rels.length = 0) ∧ drelsUpto d.size d.rels d.rels.length
theorem least_succ {l : List RelM} {i : Nat} {r : RelM} (h : l[i]? = some r) : leastZ l (i + 1) = r.at_ + 4 := by show (match l[i]? with | some r => r.at_ + 4 | none => 0) = _; rw [h]
theorem drelsUpto_next {z : Int} {l : List RelM} {k : Nat} {r : RelM} (h : drelsUpto z l k) (hr : l[k]? = some r) (hk : drelOk z (leastZ l k) r) : drelsUpto z l (k + 1) := fun i q hi hq => by
  rcases (by omega : i < k ∨ i = k) with h1 | rfl
  · exact h i q h1 hq
  · rw [hr] at hq; cases hq; exact hk
theorem least_bd {z : Int} {l : List RelM} {k : Nat} (hz : 1 ≤ z) (h : drelsUpto z l k) (hk : k ≤ l.length) : 0 ≤ leastZ l k ∧ leastZ l k ≤ z := by
  cases k with
  | zero => exact ⟨Int.le_refl _, by show (0 : Int) ≤ z; omega⟩
  | succ k =>
    induction k with
    | zero =>
      obtain ⟨r, hr⟩ : ∃ r, l[0]? = some r := ⟨_, List.getElem?_eq_getElem (by omega)⟩
      have h0 := h 0 r (by omega) hr
      rw [least_succ hr]
      have e : leastZ l 0 = 0 := rfl
      unfold drelOk at h0; rw [e] at h0
      omega
    | succ k ih =>
      have ih := ih (fun i r hi hr => h i r (by omega) hr) (by omega)
      obtain ⟨r, hr⟩ : ∃ r, l[k + 1]? = some r := ⟨_, List.getElem?_eq_getElem (by omega)⟩
      have h0 := h (k + 1) r (by omega) hr
      rw [least_succ hr]
      unfold drelOk at h0
      omega
/-! ### Objects -/
/-- The first that isn't 0. -/
def firstE {α : Type} (g : α → Int) : List α → Int
  | [] => 0
  | x :: l => if g x = 0 then firstE g l else g x
theorem firstE_all {α : Type} {g : α → Int} {l : List α} (h : ∀ x ∈ l, g x = 0) : firstE g l = 0 := by
  induction l with
  | nil => rfl
  | cons x l ih => unfold firstE; rw [if_pos (h x (List.mem_cons_self ..))]; exact ih fun y hy => h y (List.mem_cons_of_mem _ hy)
theorem firstE_at {α : Type} {g : α → Int} : ∀ {l : List α} {i : Nat} {x : α}, (∀ j y, j < i → l[j]? = some y → g y = 0) → l[i]? = some x → g x ≠ 0 → firstE g l = g x
  | [], i, x, _, hx, _ => by simp at hx
  | y :: l, 0, x, _, hx, hn => by
    simp at hx; subst hx
    unfold firstE; rw [if_neg hn]
  | y :: l, i + 1, x, h, hx, hn => by
    unfold firstE
    rw [if_pos (h 0 y (Nat.succ_pos i) rfl)]
    exact firstE_at (l := l) (i := i) (x := x) (fun j z hj hz => h (j + 1) z (Nat.succ_lt_succ hj) (by simpa using hz)) (by simpa using hx) hn
theorem firstE_bd {α : Type} {g : α → Int} (l : List α) : firstE g l = 0 ∧ (∀ x ∈ l, g x = 0) ∨ ∃ x ∈ l, firstE g l = g x ∧ g x ≠ 0 := by
  induction l with
  | nil => exact .inl ⟨rfl, fun _ h => by cases h⟩
  | cons x l ih =>
    by_cases hx : g x = 0
    · unfold firstE
      rw [if_pos hx]
      rcases ih with ⟨h1, h2⟩ | ⟨y, hy, h1, h2⟩
      · exact .inl ⟨h1, fun z hz => by rcases List.mem_cons.1 hz with rfl | hz; exact hx; exact h2 z hz⟩
      · exact .inr ⟨y, List.mem_cons_of_mem _ hy, h1, h2⟩
    · exact .inr ⟨x, List.mem_cons_self .., by unfold firstE; rw [if_neg hx], hx⟩
def namesL (o : ObjM) : List ByteArray := o.funcs.map (·.name) ++ o.datas.map (·.name)
def notesOk (o : ObjM) : Prop := ∀ n ∈ o.notes, n.name ∈ o.funcs.map (·.name)
open Classical in
/-- The first error of an object. -/
noncomputable def objE (o : ObjM) : Int :=
  if ¬ objOk o then 4
  else if firstE fnE o.funcs ≠ 0 then firstE fnE o.funcs
  else if ¬ (∀ d ∈ o.datas, rdataOk d) then 4
  else if ¬ ((namesL o).Nodup ∧ notesOk o) then 4 else 0
theorem objE_may {o : ObjM} (h : ¬ objOk o) : objE o = 4 := by unfold objE; rw [if_pos h]
theorem objE_func {o : ObjM} (h : objOk o) {e : Int} (h1 : firstE fnE o.funcs = e) (h2 : e ≠ 0) : objE o = e := by unfold objE; rw [if_neg (not_not_intro h), if_pos (by rw [h1]; exact h2), h1]
theorem objE_data {o : ObjM} (h : objOk o) (h1 : firstE fnE o.funcs = 0) {d : DataM} (hd : d ∈ o.datas) (h2 : ¬ rdataOk d) : objE o = 4 := by
  unfold objE; rw [if_neg (not_not_intro h), if_neg (by rw [h1]; decide), if_pos (fun hn => h2 (hn d hd))]
theorem objE_names {o : ObjM} (h : objOk o) (h1 : firstE fnE o.funcs = 0) (h2 : ∀ d ∈ o.datas, rdataOk d) (h3 : ¬ ((namesL o).Nodup ∧ notesOk o)) : objE o = 4 := by
  unfold objE; rw [if_neg (not_not_intro h), if_neg (by rw [h1]; decide), if_neg (not_not_intro h2), if_pos h3]
theorem objE_ok {o : ObjM} (h : objOk o) (h1 : firstE fnE o.funcs = 0) (h2 : ∀ d ∈ o.datas, rdataOk d) (h3 : (namesL o).Nodup ∧ notesOk o) : objE o = 0 := by
  unfold objE; rw [if_neg (not_not_intro h), if_neg (by rw [h1]; decide), if_neg (not_not_intro h2), if_neg (not_not_intro h3)]
/-! ### A word's parts -/
theorem gO_bd {x : Int} (h : okG x = true) : 0 ≤ gO x ∧ gO x < 26 := by
  unfold okG at h
  simp only [Bool.and_eq_true] at h
  have h1 := h.1
  unfold rightB at h1
  simp only [Bool.and_eq_true, decide_eq_true_eq] at h1
  exact h1.1.1.1.1
theorem cutZ_bd (x n : Int) (h : n ≤ 24) : 0 ≤ cutZ x n ∧ cutZ x n < 16777216 := by
  unfold cutZ
  split
  · have h2 : (2 : Int) ^ n.toNat ≤ 2 ^ 24 := by
      have : 2 ^ n.toNat ≤ 2 ^ 24 := Nat.pow_le_pow_right (by decide) (by omega)
      exact_mod_cast this
    have e : (2 : Int) ^ 24 = 16777216 := by decide
    have p : (0 : Int) < 2 ^ n.toNat := Int.pow_pos (by decide)
    have := Int.emod_nonneg x (b := 2 ^ n.toNat) (by omega)
    have := Int.emod_lt_of_pos x p
    omega
  · omega
theorem signZ_bd (x n : Int) (h : n ≤ 24) : -16777216 ≤ signZ x n ∧ signZ x n < 16777216 := by
  unfold signZ
  split
  · have h2 : (2 : Int) ^ n.toNat ≤ 2 ^ 24 := by
      have : 2 ^ n.toNat ≤ 2 ^ 24 := Nat.pow_le_pow_right (by decide) (by omega)
      exact_mod_cast this
    have e : (2 : Int) ^ 24 = 16777216 := by decide
    have p : (0 : Int) < 2 ^ n.toNat := Int.pow_pos (by decide)
    have := Int.emod_nonneg x (b := 2 ^ n.toNat) (by omega)
    have := Int.emod_lt_of_pos x p
    split <;> omega
  · omega
theorem gI_bd (x : Int) : -16777216 ≤ gI x ∧ gI x < 16777216 := by
  unfold gI immZ
  have hw : widthOf (gO x) ≤ 24 := by unfold widthOf; repeat' split <;> omega
  split
  · exact signZ_bd _ _ hw
  · have := cutZ_bd x _ hw; omega
theorem kindZ_bd (op : Int) : 0 ≤ kindZ op ∧ kindZ op ≤ 5 := by unfold kindZ; repeat' split <;> omega
end Go.Proofs.YtnejpldbokodaaaDoor
