/- An instruction's kind, as the document's own answer says. Is an object right? What is asked of functions, data and objects, over lists, and the first error. No condition. Names of objects, over lists: what has a name, what a name means, what is chosen. No condition. What is held of each name, offer by offer; what is chosen by it; what names mean by keys. No condition. The keys of the two maps: names, and names of objects. No condition. -/
import Derived.Test.YteakbpcmafdikaaGreatDoorNmBase
import Derived.Test.YteakbpcmafdikaaGreatDoorNmCode
import Derived.Deep.RegionWith
import Derived.Test.YteakbpcmafdikaaGreatDoorObjMath
import Derived.Test.YteakbpcmafdikaaGreatDoorCodePG
namespace Go.Proofs.YteakbpcmafdikaaGreatDoor
open Go.ChangeShapes Go.WideShapes Go.ChangeAt Go.RowKit
set_option linter.unusedVariables false

/-- 0 pure, 1 one that reaches out of the registers, 2 a branch, 3 a jump, 4 a call, 5 an end. -/
def kindZ (op : Int) : Int := if 1 ≤ op ∧ op ≤ 10 ∨ op = 24 then 0 else if 11 ≤ op ∧ op ≤ 14 ∨ op = 22 ∨ op = 23 then 1 else if 15 ≤ op ∧ op ≤ 18 then 2 else if op = 19 then 3 else if op = 20 then 4 else 5
theorem kind_cell (w : World) (cs : Array Value) (t : TypeId) (j : Nat) (u : Value) (h : cs[j]? = some u) : (w.alloc (.cells cs t)).cell? ⟨w.heap.size, j, none⟩ = some u := by
  simp [go_sem, h]
theorem kind_row (k : Nat) (hk : k < 26) : (#[.int .i64 5, .int .i64 0, .int .i64 0, .int .i64 0, .int .i64 0, .int .i64 0, .int .i64 0, .int .i64 0, .int .i64 0, .int .i64 0, .int .i64 0, .int .i64 1, .int .i64 1, .int .i64 1, .int .i64 1, .int .i64 2, .int .i64 2, .int .i64 2, .int .i64 2, .int .i64 3, .int .i64 4, .int .i64 5, .int .i64 1, .int .i64 1, .int .i64 0, .int .i64 5] : Array Value)[k]? = some (.int .i64 (kindZ (k : Int))) := by
  rcases (by omega : k = 0 ∨ k = 1 ∨ k = 2 ∨ k = 3 ∨ k = 4 ∨ k = 5 ∨ k = 6 ∨ k = 7 ∨ k = 8 ∨ k = 9 ∨ k = 10 ∨ k = 11 ∨ k = 12 ∨ k = 13 ∨ k = 14 ∨ k = 15 ∨ k = 16 ∨ k = 17 ∨ k = 18 ∨ k = 19 ∨ k = 20 ∨ k = 21 ∨ k = 22 ∨ k = 23 ∨ k = 24 ∨ k = 25) with rfl | rfl | rfl | rfl | rfl | rfl | rfl | rfl | rfl | rfl | rfl | rfl | rfl | rfl | rfl | rfl | rfl | rfl | rfl | rfl | rfl | rfl | rfl | rfl | rfl | rfl <;> rfl
set_option maxHeartbeats 1000000 in
theorem rkind_any (op a b c imm : Int) (w : World) (h0 : 0 ≤ op) (h1 : op < 26) : Calls Tryz.prog 54 #[.agg #[.int .i64 op, .int .i64 a, .int .i64 b, .int .i64 c, .int .i64 imm]] w fun e w' => e = .returned (.int .i64 (kindZ op)) ∧ Below w.heap.size w w' := by
  obtain ⟨k, rfl⟩ := Int.eq_ofNat_of_zero_le h0
  have hk : k < 26 := by omega
  have hc : ((w.alloc (.cells #[.int .i64 (k : Int), .int .i64 a, .int .i64 b, .int .i64 c, .int .i64 imm] 112)).alloc (.cells #[.int .i64 5, .int .i64 0, .int .i64 0, .int .i64 0, .int .i64 0, .int .i64 0, .int .i64 0, .int .i64 0, .int .i64 0, .int .i64 0, .int .i64 0, .int .i64 1, .int .i64 1, .int .i64 1, .int .i64 1, .int .i64 2, .int .i64 2, .int .i64 2, .int .i64 2, .int .i64 3, .int .i64 4, .int .i64 5, .int .i64 1, .int .i64 1, .int .i64 0, .int .i64 5] 3)).cell? ⟨w.heap.size + 1, k, none⟩ = some (.int .i64 (kindZ (k : Int))) := by
    have e : w.heap.size + 1 = (w.alloc (.cells #[.int .i64 (k : Int), .int .i64 a, .int .i64 b, .int .i64 c, .int .i64 imm] 112)).heap.size := by simp
    rw [e]
    exact kind_cell _ _ _ k _ (kind_row k hk)
  generalize kindZ (k : Int) = K at hc ⊢
  go_enter Tryz.func54, Tryz.ntmps54
  go_wp2
  go_ret
  exact ⟨rfl, ((Below.refl _ _).alloc (Nat.le_refl _) _).alloc (by simp) _⟩
theorem ops26 {op : Int} (h0 : 0 ≤ op) (h1 : op < 26) : op = 0 ∨ op = 1 ∨ op = 2 ∨ op = 3 ∨ op = 4 ∨ op = 5 ∨ op = 6 ∨ op = 7 ∨ op = 8 ∨ op = 9 ∨ op = 10 ∨ op = 11 ∨ op = 12 ∨ op = 13 ∨ op = 14 ∨ op = 15 ∨ op = 16 ∨ op = 17 ∨ op = 18 ∨ op = 19 ∨ op = 20 ∨ op = 21 ∨ op = 22 ∨ op = 23 ∨ op = 24 ∨ op = 25 := by omega
set_option maxHeartbeats 4000000 in
theorem kind_any (op a b c imm : Int) (w : World) (h0 : 0 ≤ op) (h1 : op < 26) : Calls Tryz.prog 130 #[.agg #[.int .i64 op, .int .i64 a, .int .i64 b, .int .i64 c, .int .i64 imm]] w fun e w' => e = .returned (.int .i64 (kindZ op)) ∧ Below w.heap.size w w' := by
  rcases ops26 h0 h1 with rfl | rfl | rfl | rfl | rfl | rfl | rfl | rfl | rfl | rfl | rfl | rfl | rfl | rfl | rfl | rfl | rfl | rfl | rfl | rfl | rfl | rfl | rfl | rfl | rfl | rfl
  all_goals
    go_enter Tryz.func130, Tryz.ntmps130
    go_wp2
    go_ret
    exact ⟨rfl, (Below.refl _ _).alloc (Nat.le_refl _) _⟩
open Go.RowKit
set_option linter.unusedVariables false
set_option linter.unusedSimpArgs false
/-! ### Functions -/
/-- The relocation goes with an instruction of that operation and number. -/
def goesB (r : RelM) (op imm : Int) : Bool := decide (imm = 0 ∧ (r.kind = 1 ∧ (op = 20 ∨ op = 19) ∧ r.add = 0 ∨ r.kind = 2 ∧ op = 9 ∨ r.kind = 3 ∧ op = 10))
/-- A relocation has the place. -/
def hasB (l : List RelM) (k : Nat) : Bool := l.any fun r => decide (r.at_ = (k : Int))
/-- The place of the relocation ahead of the i-th. -/
def aheadZ (l : List RelM) : Nat → Int
  | 0 => -1
  | i + 1 => match l[i]? with
    | some r => r.at_
    | none => -1
/-- A relocation is right, the one ahead of it having the place a. -/
def relAtOk (c : List Int) (a : Int) (r : RelM) : Prop := a < r.at_ ∧ r.at_ < c.length ∧ goesB r (gO (c.getD r.at_.toNat 0)) (gI (c.getD r.at_.toNat 0)) = true
def relsUpto (c : List Int) (l : List RelM) (n : Nat) : Prop := ∀ i r, i < n → l[i]? = some r → relAtOk c (aheadZ l i) r
def resolvedUpto (c : List Int) (l : List RelM) (n : Nat) : Prop := ∀ k x, k < n → c[k]? = some x → gO x = 20 → hasB l k = true
/-- An instruction that may lead elsewhere leads into the code. -/
def insideAt (c : List Int) (l : List RelM) (k : Nat) (x : Int) : Prop := (kindZ (gO x) = 2 ∨ kindZ (gO x) = 3) → hasB l k = false → 0 ≤ (k : Int) + 1 + gI x ∧ (k : Int) + 1 + gI x < c.length
def insideUpto (c : List Int) (l : List RelM) (n : Nat) : Prop := ∀ k x, k < n → c[k]? = some x → insideAt c l k x
def codesOk (c : List Int) : Prop := ∀ x ∈ c, okG x = true
def lastOk (c : List Int) : Prop := ∀ x, c[c.length - 1]? = some x → kindZ (gO x) = 3 ∨ kindZ (gO x) = 5
def bindOk (b : Int) : Prop := b = 1 ∨ b = 2 ∨ b = 3
open Classical in
/-- The first error of a function. -/
noncomputable def fnE (f : FuncM) : Int :=
  if ¬ (bindOk f.bind ∧ f.code ≠ []) then 4
  else if ¬ codesOk f.code then 3
  else if ¬ (relsUpto f.code f.rels f.rels.length ∧ resolvedUpto f.code f.rels f.code.length) then 4
  else if ¬ insideUpto f.code f.rels f.code.length then 7
  else if ¬ lastOk f.code then 4 else 0
theorem fnE_bind {f : FuncM} (h : ¬ (bindOk f.bind ∧ f.code ≠ [])) : fnE f = 4 := by unfold fnE; rw [if_pos h]
theorem fnE_code {f : FuncM} (h : bindOk f.bind ∧ f.code ≠ []) (h1 : ¬ codesOk f.code) : fnE f = 3 := by unfold fnE; rw [if_neg (not_not_intro h), if_pos h1]
theorem fnE_rels {f : FuncM} (h : bindOk f.bind ∧ f.code ≠ []) (h1 : codesOk f.code) (h2 : ¬ (relsUpto f.code f.rels f.rels.length ∧ resolvedUpto f.code f.rels f.code.length)) : fnE f = 4 := by
  unfold fnE; rw [if_neg (not_not_intro h), if_neg (not_not_intro h1), if_pos h2]
theorem fnE_inside {f : FuncM} (h : bindOk f.bind ∧ f.code ≠ []) (h1 : codesOk f.code) (h2 : relsUpto f.code f.rels f.rels.length ∧ resolvedUpto f.code f.rels f.code.length) (h3 : ¬ insideUpto f.code f.rels f.code.length) : fnE f = 7 := by
  unfold fnE; rw [if_neg (not_not_intro h), if_neg (not_not_intro h1), if_neg (not_not_intro h2), if_pos h3]
theorem fnE_last {f : FuncM} (h : bindOk f.bind ∧ f.code ≠ []) (h1 : codesOk f.code) (h2 : relsUpto f.code f.rels f.rels.length ∧ resolvedUpto f.code f.rels f.code.length) (h3 : insideUpto f.code f.rels f.code.length) (h4 : ¬ lastOk f.code) : fnE f = 4 := by
  unfold fnE; rw [if_neg (not_not_intro h), if_neg (not_not_intro h1), if_neg (not_not_intro h2), if_neg (not_not_intro h3), if_pos h4]
theorem fnE_ok {f : FuncM} (h : bindOk f.bind ∧ f.code ≠ []) (h1 : codesOk f.code) (h2 : relsUpto f.code f.rels f.rels.length ∧ resolvedUpto f.code f.rels f.code.length) (h3 : insideUpto f.code f.rels f.code.length) (h4 : lastOk f.code) : fnE f = 0 := by
  unfold fnE; rw [if_neg (not_not_intro h), if_neg (not_not_intro h1), if_neg (not_not_intro h2), if_neg (not_not_intro h3), if_neg (not_not_intro h4)]
theorem fnE_right {f : FuncM} (h : fnE f = 0) : (bindOk f.bind ∧ f.code ≠ []) ∧ codesOk f.code ∧ (relsUpto f.code f.rels f.rels.length ∧ resolvedUpto f.code f.rels f.code.length) ∧ insideUpto f.code f.rels f.code.length ∧ lastOk f.code := by
  unfold fnE at h
  split at h
  · exact absurd h (by decide)
  split at h
  · exact absurd h (by decide)
  split at h
  · exact absurd h (by decide)
  split at h
  · exact absurd h (by decide)
  split at h
  · exact absurd h (by decide)
  simp only [Classical.not_not] at *
  exact ⟨‹_›, ‹_›, ‹_›, ‹_›, ‹_›⟩
theorem fnE_bd (f : FuncM) : fnE f = 0 ∨ fnE f = 3 ∨ fnE f = 4 ∨ fnE f = 7 := by
  unfold fnE
  repeat' split
  all_goals simp
/-- The prefix grows by one. -/
theorem relsUpto_next {c : List Int} {l : List RelM} {k : Nat} {r : RelM} (h : relsUpto c l k) (hr : l[k]? = some r) (hk : relAtOk c (aheadZ l k) r) : relsUpto c l (k + 1) := fun i q hi hq => by
  rcases (by omega : i < k ∨ i = k) with h1 | rfl
  · exact h i q h1 hq
  · rw [hr] at hq; cases hq; exact hk
theorem resolvedUpto_next {c : List Int} {l : List RelM} {k : Nat} {x : Int} (h : resolvedUpto c l k) (hx : c[k]? = some x) (hk : gO x = 20 → hasB l k = true) : resolvedUpto c l (k + 1) := fun i y hi hy => by
  rcases (by omega : i < k ∨ i = k) with h1 | rfl
  · exact h i y h1 hy
  · rw [hx] at hy; cases hy; exact hk
theorem insideUpto_next {c : List Int} {l : List RelM} {k : Nat} {x : Int} (h : insideUpto c l k) (hx : c[k]? = some x) (hk : insideAt c l k x) : insideUpto c l (k + 1) := fun i y hi hy => by
  rcases (by omega : i < k ∨ i = k) with h1 | rfl
  · exact h i y h1 hy
  · rw [hx] at hy; cases hy; exact hk
theorem ahead_succ {l : List RelM} {i : Nat} {r : RelM} (h : l[i]? = some r) : aheadZ l (i + 1) = r.at_ := by show (match l[i]? with | some r => r.at_ | none => -1) = _; rw [h]
/-- Where those ahead are right the place ahead is -1, or one of the code. -/
theorem ahead_bd {c : List Int} {l : List RelM} {k : Nat} (h : relsUpto c l k) (hk : k ≤ l.length) : -1 ≤ aheadZ l k ∧ (0 < k → 0 ≤ aheadZ l k) ∧ aheadZ l k < (c.length : Int) ∨ aheadZ l k = -1 ∧ k = 0 := by
  cases k with
  | zero => exact .inr ⟨rfl, rfl⟩
  | succ k =>
    left
    induction k with
    | zero =>
      obtain ⟨r, hr⟩ : ∃ r, l[0]? = some r := ⟨_, List.getElem?_eq_getElem (by omega)⟩
      have h0 := h 0 r (by omega) hr
      rw [ahead_succ hr]
      have e : aheadZ l 0 = -1 := rfl
      unfold relAtOk at h0; rw [e] at h0
      exact ⟨by omega, fun _ => by omega, h0.2.1⟩
    | succ k ih =>
      have ih := ih (fun i r hi hr => h i r (by omega) hr) (by omega)
      obtain ⟨r, hr⟩ : ∃ r, l[k + 1]? = some r := ⟨_, List.getElem?_eq_getElem (by omega)⟩
      have h0 := h (k + 1) r (by omega) hr
      rw [ahead_succ hr]
      have := ih.2.1 (by omega)
      unfold relAtOk at h0
      exact ⟨by omega, fun _ => by omega, h0.2.1⟩
theorem has_take {l : List RelM} {n k : Nat} {r : RelM} (hr : l[n]? = some r) : hasB (l.take (n + 1)) k = (hasB (l.take n) k || decide (r.at_ = (k : Int))) := by
  unfold hasB
  rw [List.take_add_one, hr]
  simp
theorem has_all {l : List RelM} {k : Nat} : hasB (l.take l.length) k = hasB l k := by rw [List.take_length]
/-! ### Data -/
def leastZ (l : List RelM) : Nat → Int
  | 0 => 0
  | i + 1 => match l[i]? with
    | some r => r.at_ + 4
    | none => 0
def drelOk (size : Int) (a : Int) (r : RelM) : Prop := r.kind = 4 ∧ a ≤ r.at_ ∧ r.at_ ≤ size - 4
def drelsUpto (size : Int) (l : List RelM) (n : Nat) : Prop := ∀ i r, i < n → l[i]? = some r → drelOk size (leastZ l i) r
def rdataOk (d : DataM) : Prop := (1 ≤ d.bind ∧ d.bind ≤ 4) ∧ (d.align = 1 ∨ d.align = 2 ∨ d.align = 4 ∨ d.align = 8 ∨ d.align = 16) ∧ (1 ≤ d.size ∧ d.size ≤ 4096 ∧ (d.bytes.length : Int) ≤ d.size) ∧
  (d.bind = 4 → d.fixed = false ∧ d.bytes.length = 0 ∧ d.rels.length = 0) ∧ drelsUpto d.size d.rels d.rels.length
theorem least_succ {l : List RelM} {i : Nat} {r : RelM} (h : l[i]? = some r) : leastZ l (i + 1) = r.at_ + 4 := by show (match l[i]? with | some r => r.at_ + 4 | none => 0) = _; rw [h]
theorem drelsUpto_next {z : Int} {l : List RelM} {k : Nat} {r : RelM} (h : drelsUpto z l k) (hr : l[k]? = some r) (hk : drelOk z (leastZ l k) r) : drelsUpto z l (k + 1) := fun i q hi hq => by
  rcases (by omega : i < k ∨ i = k) with h1 | rfl
  · exact h i q h1 hq
  · rw [hr] at hq; cases hq; exact hk
theorem least_bd {z : Int} {l : List RelM} {k : Nat} (hz : 1 ≤ z) (h : drelsUpto z l k) (hk : k ≤ l.length) : 0 ≤ leastZ l k ∧ leastZ l k ≤ z := by
  cases k with
  | zero => exact ⟨Int.le_refl _, by show (0 : Int) ≤ z; omega⟩
  | succ k =>
    induction k with
    | zero =>
      obtain ⟨r, hr⟩ : ∃ r, l[0]? = some r := ⟨_, List.getElem?_eq_getElem (by omega)⟩
      have h0 := h 0 r (by omega) hr
      rw [least_succ hr]
      have e : leastZ l 0 = 0 := rfl
      unfold drelOk at h0; rw [e] at h0
      omega
    | succ k ih =>
      have ih := ih (fun i r hi hr => h i r (by omega) hr) (by omega)
      obtain ⟨r, hr⟩ : ∃ r, l[k + 1]? = some r := ⟨_, List.getElem?_eq_getElem (by omega)⟩
      have h0 := h (k + 1) r (by omega) hr
      rw [least_succ hr]
      unfold drelOk at h0
      omega
/-! ### Objects -/
/-- The first that isn't 0. -/
def firstE {α : Type} (g : α → Int) : List α → Int
  | [] => 0
  | x :: l => if g x = 0 then firstE g l else g x
theorem firstE_all {α : Type} {g : α → Int} {l : List α} (h : ∀ x ∈ l, g x = 0) : firstE g l = 0 := by
  induction l with
  | nil => rfl
  | cons x l ih => unfold firstE; rw [if_pos (h x (List.mem_cons_self ..))]; exact ih fun y hy => h y (List.mem_cons_of_mem _ hy)
theorem firstE_at {α : Type} {g : α → Int} : ∀ {l : List α} {i : Nat} {x : α}, (∀ j y, j < i → l[j]? = some y → g y = 0) → l[i]? = some x → g x ≠ 0 → firstE g l = g x
  | [], i, x, _, hx, _ => by simp at hx
  | y :: l, 0, x, _, hx, hn => by
    simp at hx; subst hx
    unfold firstE; rw [if_neg hn]
  | y :: l, i + 1, x, h, hx, hn => by
    unfold firstE
    rw [if_pos (h 0 y (Nat.succ_pos i) rfl)]
    exact firstE_at (l := l) (i := i) (x := x) (fun j z hj hz => h (j + 1) z (Nat.succ_lt_succ hj) (by simpa using hz)) (by simpa using hx) hn
theorem firstE_bd {α : Type} {g : α → Int} (l : List α) : firstE g l = 0 ∧ (∀ x ∈ l, g x = 0) ∨ ∃ x ∈ l, firstE g l = g x ∧ g x ≠ 0 := by
  induction l with
  | nil => exact .inl ⟨rfl, fun _ h => by cases h⟩
  | cons x l ih =>
    by_cases hx : g x = 0
    · unfold firstE
      rw [if_pos hx]
      rcases ih with ⟨h1, h2⟩ | ⟨y, hy, h1, h2⟩
      · exact .inl ⟨h1, fun z hz => by rcases List.mem_cons.1 hz with rfl | hz; exact hx; exact h2 z hz⟩
      · exact .inr ⟨y, List.mem_cons_of_mem _ hy, h1, h2⟩
    · exact .inr ⟨x, List.mem_cons_self .., by unfold firstE; rw [if_neg hx], hx⟩
def namesL (o : ObjM) : List ByteArray := o.funcs.map (·.name) ++ o.datas.map (·.name)
def notesOk (o : ObjM) : Prop := ∀ n ∈ o.notes, n.name ∈ o.funcs.map (·.name)
open Classical in
/-- The first error of an object. -/
noncomputable def objE (o : ObjM) : Int :=
  if ¬ objOk o then 4
  else if firstE fnE o.funcs ≠ 0 then firstE fnE o.funcs
  else if ¬ (∀ d ∈ o.datas, rdataOk d) then 4
  else if ¬ ((namesL o).Nodup ∧ notesOk o) then 4 else 0
theorem objE_may {o : ObjM} (h : ¬ objOk o) : objE o = 4 := by unfold objE; rw [if_pos h]
theorem objE_func {o : ObjM} (h : objOk o) {e : Int} (h1 : firstE fnE o.funcs = e) (h2 : e ≠ 0) : objE o = e := by unfold objE; rw [if_neg (not_not_intro h), if_pos (by rw [h1]; exact h2), h1]
theorem objE_data {o : ObjM} (h : objOk o) (h1 : firstE fnE o.funcs = 0) {d : DataM} (hd : d ∈ o.datas) (h2 : ¬ rdataOk d) : objE o = 4 := by
  unfold objE; rw [if_neg (not_not_intro h), if_neg (by rw [h1]; decide), if_pos (fun hn => h2 (hn d hd))]
theorem objE_names {o : ObjM} (h : objOk o) (h1 : firstE fnE o.funcs = 0) (h2 : ∀ d ∈ o.datas, rdataOk d) (h3 : ¬ ((namesL o).Nodup ∧ notesOk o)) : objE o = 4 := by
  unfold objE; rw [if_neg (not_not_intro h), if_neg (by rw [h1]; decide), if_neg (not_not_intro h2), if_pos h3]
theorem objE_ok {o : ObjM} (h : objOk o) (h1 : firstE fnE o.funcs = 0) (h2 : ∀ d ∈ o.datas, rdataOk d) (h3 : (namesL o).Nodup ∧ notesOk o) : objE o = 0 := by
  unfold objE; rw [if_neg (not_not_intro h), if_neg (by rw [h1]; decide), if_neg (not_not_intro h2), if_neg (not_not_intro h3)]
/-! ### A word's parts -/
theorem gO_bd {x : Int} (h : okG x = true) : 0 ≤ gO x ∧ gO x < 26 := by
  unfold okG at h
  simp only [Bool.and_eq_true] at h
  have h1 := h.1
  unfold rightB at h1
  simp only [Bool.and_eq_true, decide_eq_true_eq] at h1
  exact h1.1.1.1.1
theorem cutZ_bd (x n : Int) (h : n ≤ 24) : 0 ≤ cutZ x n ∧ cutZ x n < 16777216 := by
  unfold cutZ
  split
  · have h2 : (2 : Int) ^ n.toNat ≤ 2 ^ 24 := by
      have : 2 ^ n.toNat ≤ 2 ^ 24 := Nat.pow_le_pow_right (by decide) (by omega)
      exact_mod_cast this
    have e : (2 : Int) ^ 24 = 16777216 := by decide
    have p : (0 : Int) < 2 ^ n.toNat := Int.pow_pos (by decide)
    have := Int.emod_nonneg x (b := 2 ^ n.toNat) (by omega)
    have := Int.emod_lt_of_pos x p
    omega
  · omega
theorem signZ_bd (x n : Int) (h : n ≤ 24) : -16777216 ≤ signZ x n ∧ signZ x n < 16777216 := by
  unfold signZ
  split
  · have h2 : (2 : Int) ^ n.toNat ≤ 2 ^ 24 := by
      have : 2 ^ n.toNat ≤ 2 ^ 24 := Nat.pow_le_pow_right (by decide) (by omega)
      exact_mod_cast this
    have e : (2 : Int) ^ 24 = 16777216 := by decide
    have p : (0 : Int) < 2 ^ n.toNat := Int.pow_pos (by decide)
    have := Int.emod_nonneg x (b := 2 ^ n.toNat) (by omega)
    have := Int.emod_lt_of_pos x p
    split <;> omega
  · omega
theorem gI_bd (x : Int) : -16777216 ≤ gI x ∧ gI x < 16777216 := by
  unfold gI immZ
  have hw : widthOf (gO x) ≤ 24 := by unfold widthOf; repeat' split <;> omega
  split
  · exact signZ_bd _ _ hw
  · have := cutZ_bd x _ hw; omega
theorem kindZ_bd (op : Int) : 0 ≤ kindZ op ∧ kindZ op ≤ 5 := by unfold kindZ; repeat' split <;> omega
open Go.RowKit
set_option linter.unusedVariables false
set_option linter.unusedSimpArgs false
structure ItemM where
  obj : Nat
  at_ : Nat
  data : Bool
  name : ByteArray
  bind : Int
deriving DecidableEq
def funcI (o k : Nat) (f : FuncM) : ItemM := ⟨o, k, false, f.name, f.bind⟩
def dataI (o k : Nat) (d : DataM) : ItemM := ⟨o, k, true, d.name, d.bind⟩
/-- What has a name in the object o. -/
def objI (o : Nat) (b : ObjM) : List ItemM := b.funcs.mapIdx (funcI o) ++ b.datas.mapIdx (dataI o)
/-- What has a name, in order. -/
def itemsL (l : List ObjM) : List ItemM := (l.mapIdx objI).flatten
/-- It is a local one of that object and name. -/
def locP (obj : Int) (name : ByteArray) (x : ItemM) : Bool := decide (x.bind = 3 ∧ (x.obj : Int) = obj ∧ x.name = name)
/-- It has that bind and name. -/
def bindP (b : Int) (name : ByteArray) (x : ItemM) : Bool := decide (x.bind = b ∧ x.name = name)
/-- What a name means in an object (or, with -1, in none). -/
def meanZ (all : List ItemM) (obj : Int) (name : ByteArray) : Option ItemM :=
  (all.find? (locP obj name)).or ((all.find? (bindP 1 name)).or ((all.find? (bindP 2 name)).or (all.find? (bindP 4 name))))
/-- What is chosen. -/
def choseP (all : List ItemM) (data : Bool) (x : ItemM) : Bool :=
  decide (meanZ all (if x.bind = 3 then (x.obj : Int) else -1) x.name = some x ∧ x.data = data)
def chosenZ (all : List ItemM) (data : Bool) : List ItemM := all.filter (choseP all data)
/-- Where it stands in a list, or -1. -/
def placeZ (l : List ItemM) (x : ItemM) : Int := match l.findIdx? (fun y => decide (y = x)) with
  | some i => i
  | none => -1
def saidZ (o : ObjM) (name : ByteArray) (kind : Int) : Bool := o.notes.any fun n => decide (n.name = name ∧ n.kind = kind)
structure PRelM where
  at_ : Int
  kind : Int
  to : Int
  add : Int
deriving DecidableEq
/-- A relocation, resolved, or what is wrong. -/
def relZ (all fs ds : List ItemM) (obj : Nat) (r : RelM) : Except Int PRelM := match meanZ all obj r.name with
  | none => .error 6
  | some x => if x.data = decide (r.kind = 1) then .error 9 else .ok ⟨r.at_, r.kind, if x.data = true then placeZ ds x else placeZ fs x, r.add⟩
/-! ### Prefixes -/
theorem find_none_next {α : Type} {p : α → Bool} {l : List α} {k : Nat} {x : α} (h : (l.take k).find? p = none) (hx : l[k]? = some x) (hp : p x = false) : (l.take (k + 1)).find? p = none := by
  rw [List.take_add_one, hx, List.find?_append, h]
  simp [hp]
theorem find_some_at {α : Type} {p : α → Bool} {l : List α} {k : Nat} {x : α} (h : (l.take k).find? p = none) (hx : l[k]? = some x) (hp : p x = true) : l.find? p = some x := by
  have e : l = l.take k ++ x :: l.drop (k + 1) := by
    obtain ⟨hk, ex⟩ := List.getElem?_eq_some_iff.1 hx
    rw [← ex, List.getElem_cons_drop, List.take_append_drop]
  rw [e, List.find?_append, h]
  simp [hp]
theorem find_none_all {α : Type} {p : α → Bool} {l : List α} (h : (l.take l.length).find? p = none) : l.find? p = none := by rwa [List.take_length] at h
theorem filter_next {α : Type} {p : α → Bool} {l : List α} {k : Nat} {x : α} (hx : l[k]? = some x) : (l.take (k + 1)).filter p = (l.take k).filter p ++ (if p x = true then [x] else []) := by
  rw [List.take_add_one, hx, List.filter_append]
  congr 1
  cases h : p x <;> simp [h]
theorem mapIdx_next {α β : Type} (f : Nat → α → β) {l : List α} {k : Nat} {x : α} (hx : l[k]? = some x) : (l.take (k + 1)).mapIdx f = (l.take k).mapIdx f ++ [f k x] := by
  rw [List.take_add_one, hx]
  have hk := (List.getElem?_eq_some_iff.1 hx).1
  show (l.take k ++ [x]).mapIdx f = _
  rw [List.mapIdx_concat, List.length_take, Nat.min_eq_left (by omega)]
theorem mapIdx_take {α β : Type} (f : Nat → α → β) (l : List α) (k : Nat) : (l.mapIdx f).take k = (l.take k).mapIdx f := by
  apply List.ext_getElem?
  intro i
  rw [List.getElem?_take, List.getElem?_mapIdx, List.getElem?_mapIdx, List.getElem?_take]
  split <;> rfl
theorem place_none {l : List ItemM} {x : ItemM} (h : ∀ j y, j < l.length → l[j]? = some y → y ≠ x) : placeZ l x = -1 := by
  unfold placeZ
  rw [show l.findIdx? (fun y => decide (y = x)) = none from ?_]
  rw [List.findIdx?_eq_none_iff]
  intro y hy
  obtain ⟨j, hj, e⟩ := List.getElem_of_mem hy
  simpa using h j y hj (by rw [List.getElem?_eq_getElem hj, e])
theorem place_at {l : List ItemM} {x : ItemM} {k : Nat} (h : ∀ j y, j < k → l[j]? = some y → y ≠ x) (hk : l[k]? = some x) : placeZ l x = k := by
  unfold placeZ
  obtain ⟨hl, e⟩ := List.getElem?_eq_some_iff.1 hk
  rw [show l.findIdx? (fun y => decide (y = x)) = some k from ?_]
  rw [List.findIdx?_eq_some_iff_getElem]
  refine ⟨hl, by simp [e], fun j hj => ?_⟩
  have := h j l[j] hj (List.getElem?_eq_getElem (by omega))
  simpa using this
theorem any_next {α : Type} {p : α → Bool} {l : List α} {k : Nat} {x : α} (hx : l[k]? = some x) : (l.take (k + 1)).any p = ((l.take k).any p || p x) := by
  rw [List.take_add_one, hx]
  simp
/-! ### The program -/
structure PFuncM where
  name : ByteArray
  keep : Bool
  leaf : Bool
  code : List Int
  rels : List PRelM
structure PDataM where
  align : Int
  fixed : Bool
  size : Int
  bytes : List Int
  rels : List PRelM
structure ProgM where
  funcs : List PFuncM
  datas : List PDataM
  entry : Int
def noProg : ProgM := ⟨[], [], 0⟩
def noObj10 : ObjM := ⟨[], [], []⟩
def noFunc10 : FuncM := ⟨⟨#[]⟩, 0, [], []⟩
def noData10 : DataM := ⟨⟨#[]⟩, 0, 0, false, 0, [], []⟩
def objAt (l : List ObjM) (x : ItemM) : ObjM := l.getD x.obj noObj10
def funcOf (l : List ObjM) (x : ItemM) : FuncM := (objAt l x).funcs.getD x.at_ noFunc10
def dataOf (l : List ObjM) (x : ItemM) : DataM := (objAt l x).datas.getD x.at_ noData10
/-- One after the other, up to the first that fails. -/
def eachE {α β : Type} (g : α → Except Int β) : List α → Except Int (List β)
  | [] => .ok []
  | x :: l => match g x with
    | .error e => .error e
    | .ok y => match eachE g l with
      | .error e => .error e
      | .ok m => .ok (y :: m)
def joinE {β : Type} (a : Except Int (List β)) (b : Except Int β) : Except Int (List β) := match a with
  | .error e => .error e
  | .ok p => match b with
    | .error e => .error e
    | .ok q => .ok (p ++ [q])
theorem eachE_append {α β : Type} (g : α → Except Int β) (l : List α) (r : α) : eachE g (l ++ [r]) = joinE (eachE g l) (g r) := by
  induction l with
  | nil =>
    simp only [List.nil_append, eachE]
    cases g r <;> rfl
  | cons x l ih =>
    simp only [List.cons_append, eachE, ih]
    cases g x with
    | error e => rfl
    | ok p =>
      cases eachE g l with
      | error e => rfl
      | ok q => cases g r <;> rfl
theorem eachE_err {α β : Type} {g : α → Except Int β} {e : Int} : ∀ (l m : List α), eachE g l = .error e → eachE g (l ++ m) = .error e
  | [], m, h => by simp [eachE] at h
  | x :: l, m, h => by
    simp only [List.cons_append, eachE] at h ⊢
    cases hx : g x with
    | error e' => rw [hx] at h; exact h
    | ok p =>
      rw [hx] at h
      dsimp only at h ⊢
      cases hl : eachE g l with
      | error e' =>
        rw [hl] at h
        rw [eachE_err (e := e') l m hl]
        exact h
      | ok q => rw [hl] at h; cases h
/-- One more, that is well. -/
theorem eachE_next {α β : Type} {g : α → Except Int β} {l : List α} {k : Nat} {x : α} {ys : List β} {y : β} (h : eachE g (l.take k) = .ok ys) (hx : l[k]? = some x) (hy : g x = .ok y) : eachE g (l.take (k + 1)) = .ok (ys ++ [y]) := by
  rw [List.take_add_one, hx]
  show eachE g (l.take k ++ [x]) = _
  rw [eachE_append, h, hy]
  rfl
/-- The first that fails. -/
theorem eachE_at {α β : Type} {g : α → Except Int β} {l : List α} {k : Nat} {x : α} {ys : List β} {e : Int} (h : eachE g (l.take k) = .ok ys) (hx : l[k]? = some x) (hy : g x = .error e) : eachE g l = .error e := by
  have e1 : l = (l.take k ++ [x]) ++ l.drop (k + 1) := by
    obtain ⟨hk, ex⟩ := List.getElem?_eq_some_iff.1 hx
    rw [List.append_assoc, ← ex]
    show l = l.take k ++ (l[k] :: l.drop (k + 1))
    rw [List.getElem_cons_drop, List.take_append_drop]
  rw [e1]
  refine eachE_err _ _ ?_
  rw [eachE_append, h, hy]
  rfl
def relsZ (all fs ds : List ItemM) (obj : Nat) (l : List RelM) : Except Int (List PRelM) := eachE (relZ all fs ds obj) l
def pfuncZ (l : List ObjM) (all fs ds : List ItemM) (x : ItemM) : Except Int PFuncM := match relsZ all fs ds x.obj (funcOf l x).rels with
  | .error e => .error e
  | .ok r => .ok ⟨(funcOf l x).name, saidZ (objAt l x) (funcOf l x).name 1, saidZ (objAt l x) (funcOf l x).name 2, (funcOf l x).code, r⟩
/-- The greatest, from z on, of what p has. -/
def greatZ (g : ItemM → Int) (p : ItemM → Bool) (z : Int) (all : List ItemM) : Int := (all.filter p).foldl (fun m x => if m < g x then g x else m) z
def pdataZ (l : List ObjM) (all fs ds : List ItemM) (x : ItemM) : Except Int PDataM := match relsZ all fs ds x.obj (dataOf l x).rels with
  | .error e => .error e
  | .ok r => if (dataOf l x).bind = 4 then
      .ok ⟨greatZ (fun y => (dataOf l y).align) (bindP 4 (dataOf l x).name) (dataOf l x).align all, (dataOf l x).fixed, greatZ (fun y => (dataOf l y).size) (bindP 4 (dataOf l x).name) (dataOf l x).size all, (dataOf l x).bytes, r⟩
    else .ok ⟨(dataOf l x).align, (dataOf l x).fixed, (dataOf l x).size, (dataOf l x).bytes, r⟩
def mainT : ByteArray := ⟨#[109, 97, 105, 110]⟩
def twiceP (all : List ItemM) : Prop := ∃ (i k : Nat) (x y : ItemM), k < i ∧ all[i]? = some x ∧ all[k]? = some y ∧ x.bind = 1 ∧ y.bind = 1 ∧ x.name = y.name
open Classical in
/-- The program, or what is wrong first. -/
noncomputable def resZ (l : List ObjM) : Int × ProgM :=
  if 16 < l.length then (8, noProg)
  else if firstE objE l ≠ 0 then (firstE objE l, noProg)
  else if twiceP (itemsL l) then (5, noProg)
  else match meanZ (itemsL l) (-1) mainT with
    | none => (6, noProg)
    | some m => if m.data = true then (9, noProg) else
      match eachE (pfuncZ l (itemsL l) (chosenZ (itemsL l) false) (chosenZ (itemsL l) true)) (chosenZ (itemsL l) false) with
      | .error e => (e, noProg)
      | .ok fs => match eachE (pdataZ l (itemsL l) (chosenZ (itemsL l) false) (chosenZ (itemsL l) true)) (chosenZ (itemsL l) true) with
        | .error e => (e, noProg)
        | .ok ds => (0, ⟨fs, ds, placeZ (chosenZ (itemsL l) false) m⟩)
theorem great_next {g : ItemM → Int} {p : ItemM → Bool} {z : Int} {l : List ItemM} {k : Nat} {x : ItemM} (hx : l[k]? = some x) :
    greatZ g p z (l.take (k + 1)) = if p x = true ∧ greatZ g p z (l.take k) < g x then g x else greatZ g p z (l.take k) := by
  unfold greatZ
  rw [filter_next hx, List.foldl_append]
  cases h : p x
  · simp
  · simp
open Go.RowKit
set_option linter.unusedVariables false
set_option linter.unusedSimpArgs false
/-! ### Offers -/
structure HoldM where
  obj : Nat
  bind : Int
  size : Int
  align : Int
/-- What is held behind an offer; nothing, if both are strong. -/
def offerZ (H : Option HoldM) (h : HoldM) : Option HoldM := match H with
  | none => some h
  | some old => if h.bind < old.bind then some h else if h.bind = 1 then none
    else if old.bind = 4 then some ⟨old.obj, old.bind, max old.size h.size, max old.align h.align⟩ else some old
abbrev Held := ByteArray → Option HoldM
def Held.put (H : Held) (n : ByteArray) (h : HoldM) : Held := fun m => if m = n then some h else H m
/-- The one that a name means where no local one has it. -/
def freeZ (xs : List ItemM) (n : ByteArray) : Option ItemM := (xs.find? (bindP 1 n)).or ((xs.find? (bindP 2 n)).or (xs.find? (bindP 4 n)))
theorem loc_free (xs : List ItemM) (n : ByteArray) : xs.find? (locP (-1) n) = none := by
  rw [List.find?_eq_none]
  intro x _ h
  have := of_decide_eq_true h
  omega
theorem mean_free (xs : List ItemM) (n : ByteArray) : meanZ xs (-1) n = freeZ xs n := by
  unfold meanZ; rw [loc_free]; rfl
theorem mean_split (xs : List ItemM) (o : Int) (n : ByteArray) : meanZ xs o n = (xs.find? (locP o n)).or (freeZ xs n) := rfl
theorem bindP_iff {b : Int} {n : ByteArray} {x : ItemM} (h : bindP b n x = true) : x.bind = b ∧ x.name = n := of_decide_eq_true h
theorem locP_iff {o : Int} {n : ByteArray} {x : ItemM} (h : locP o n x = true) : x.bind = 3 ∧ (x.obj : Int) = o ∧ x.name = n := of_decide_eq_true h
theorem find_bind {xs : List ItemM} {b : Int} {n : ByteArray} {x : ItemM} (h : xs.find? (bindP b n) = some x) : x.bind = b ∧ x.name = n ∧ x ∈ xs :=
  have p := bindP_iff (List.find?_some h)
  ⟨p.1, p.2, List.mem_of_find?_eq_some h⟩
theorem free_bind {xs : List ItemM} {n : ByteArray} {x : ItemM} (h : freeZ xs n = some x) : (x.bind = 1 ∨ x.bind = 2 ∨ x.bind = 4) ∧ x.name = n ∧ x ∈ xs := by
  unfold freeZ at h
  cases h1 : xs.find? (bindP 1 n) with
  | some y => rw [h1] at h; simp at h; subst h; have := find_bind h1; exact ⟨.inl this.1, this.2⟩
  | none =>
    cases h2 : xs.find? (bindP 2 n) with
    | some y => rw [h1, h2] at h; simp at h; subst h; have := find_bind h2; exact ⟨.inr (.inl this.1), this.2⟩
    | none => rw [h1, h2] at h; simp at h; have := find_bind h; exact ⟨.inr (.inr this.1), this.2⟩
theorem find_snoc {α : Type} (xs : List α) (p : α → Bool) (x : α) : (xs ++ [x]).find? p = (xs.find? p).or (if p x = true then some x else none) := by
  rw [List.find?_append]
  cases h : p x <;> simp [h]
theorem free_other {xs : List ItemM} {x : ItemM} {n : ByteArray} (h : x.bind = 3 ∨ x.name ≠ n) : freeZ (xs ++ [x]) n = freeZ xs n := by
  have k : ∀ b, b ≠ 3 → bindP b n x = false := fun b hb => decide_eq_false fun e => by
    rcases h with h | h
    · exact hb (e.1.symm.trans h)
    · exact h e.2
  unfold freeZ
  rw [find_snoc, find_snoc, find_snoc, k 1 (by decide), k 2 (by decide), k 4 (by decide)]
  simp
theorem free_same {xs : List ItemM} {x : ItemM} (hb : x.bind = 1 ∨ x.bind = 2 ∨ x.bind = 4) : freeZ (xs ++ [x]) x.name = match freeZ xs x.name with
    | none => some x
    | some y => if x.bind < y.bind then some x else some y := by
  unfold freeZ
  rw [find_snoc, find_snoc, find_snoc]
  have k : ∀ b, bindP b x.name x = decide (x.bind = b) := fun b => by unfold bindP; simp
  rw [k, k, k]
  cases h1 : xs.find? (bindP 1 x.name) with
  | some y =>
    have := (find_bind h1).1
    have e : ¬ x.bind < y.bind := by omega
    simp [e]
  | none =>
    cases h2 : xs.find? (bindP 2 x.name) with
    | some y =>
      have := (find_bind h2).1
      rcases hb with hb | hb | hb <;> simp [hb, this]
    | none =>
      cases h4 : xs.find? (bindP 4 x.name) with
      | some y =>
        have := (find_bind h4).1
        rcases hb with hb | hb | hb <;> simp [hb, this]
      | none => rcases hb with hb | hb | hb <;> simp [hb]
theorem great_none {g : ItemM → Int} {p : ItemM → Bool} {z : Int} {xs : List ItemM} (h : xs.find? p = none) : greatZ g p z xs = z := by
  unfold greatZ
  rw [List.filter_eq_nil_iff.2 (List.find?_eq_none.1 h)]
  rfl
theorem great_snoc {g : ItemM → Int} {p : ItemM → Bool} {z : Int} {xs : List ItemM} {x : ItemM} : greatZ g p z (xs ++ [x]) = if p x = true then max (greatZ g p z xs) (g x) else greatZ g p z xs := by
  unfold greatZ
  rw [List.filter_append, List.foldl_append]
  cases h : p x
  · simp [h]
  · simp only [List.filter_cons, h, if_true, List.filter_nil, List.foldl_cons, List.foldl_nil]
    split <;> omega
theorem free_four {xs : List ItemM} {n : ByteArray} (h : freeZ xs n = none) : xs.find? (bindP 4 n) = none := by
  unfold freeZ at h
  simp only [Option.or_eq_none_iff] at h
  exact h.2.2
/-- What is held is what the names mean. -/
def heldOk (sz al : ItemM → Int) (xs : List ItemM) (H : Held) : Prop := ∀ n, match freeZ xs n with
  | none => H n = none
  | some x => ∃ s a, H n = some ⟨x.obj, x.bind, s, a⟩ ∧ (x.bind = 4 → s = greatZ sz (bindP 4 n) (sz x) xs ∧ a = greatZ al (bindP 4 n) (al x) xs)
def noTwice (xs : List ItemM) : Prop := xs.Pairwise fun x y => ¬ (x.bind = 1 ∧ y.bind = 1 ∧ x.name = y.name)
section
variable {sz al : ItemM → Int} {xs : List ItemM} {H : Held} {x : ItemM}
theorem held_nil : heldOk sz al [] fun _ => none := fun n => rfl
theorem held_local (h : heldOk sz al xs H) (hb : x.bind = 3) : heldOk sz al (xs ++ [x]) H := fun n => by
  have k := h n
  rw [free_other (.inl hb)]
  cases hf : freeZ xs n with
  | none => rw [hf] at k; exact k
  | some y =>
    rw [hf] at k
    obtain ⟨s, a, h1, h2⟩ := k
    refine ⟨s, a, h1, fun e => ?_⟩
    have hp : ¬ bindP 4 n x = true := fun e => by have := of_decide_eq_true e; omega
    rw [great_snoc, if_neg hp, great_snoc, if_neg hp]
    exact h2 e
theorem held_next (h : heldOk sz al xs H) (hb : x.bind = 1 ∨ x.bind = 2 ∨ x.bind = 4) {q : HoldM} (hq : offerZ (H x.name) ⟨x.obj, x.bind, sz x, al x⟩ = some q) : heldOk sz al (xs ++ [x]) (H.put x.name q) := fun n => by
  by_cases hn : x.name = n
  · subst hn
    have k := h x.name
    rw [free_same hb]
    have e1 : (H.put x.name q) x.name = some q := if_pos rfl
    cases hf : freeZ xs x.name with
    | none =>
      rw [hf] at k
      have k : H x.name = none := k
      rw [k] at hq
      cases hq
      refine ⟨_, _, e1, fun e => ?_⟩
      rw [great_snoc, great_snoc, great_none (free_four hf), great_none (free_four hf)]
      have hp : bindP 4 x.name x = true := decide_eq_true ⟨e, rfl⟩
      rw [if_pos hp, if_pos hp]
      exact ⟨by omega, by omega⟩
    | some y =>
      rw [hf] at k
      obtain ⟨s, a, h1, h2⟩ := k
      have hy := (free_bind hf).1
      rw [h1] at hq
      unfold offerZ at hq
      dsimp only at hq ⊢
      by_cases c1 : x.bind < y.bind
      · rw [if_pos c1] at hq ⊢
        cases hq
        exact ⟨_, _, e1, fun e => by omega⟩
      rw [if_neg c1] at hq ⊢
      by_cases c2 : x.bind = 1
      · rw [if_pos c2] at hq; cases hq
      rw [if_neg c2] at hq
      by_cases c3 : y.bind = 4
      · rw [if_pos c3] at hq
        cases hq
        obtain ⟨rfl, rfl⟩ := h2 c3
        refine ⟨_, _, e1, fun e => ?_⟩
        have hp : bindP 4 x.name x = true := decide_eq_true ⟨by omega, rfl⟩
        rw [great_snoc, great_snoc, if_pos hp, if_pos hp]
        exact ⟨rfl, rfl⟩
      · rw [if_neg c3] at hq
        cases hq
        exact ⟨_, _, e1, fun e => absurd e c3⟩
  · have k := h n
    rw [free_other (.inr hn)]
    have e1 : (H.put x.name q) n = H n := if_neg fun e => hn e.symm
    rw [e1]
    cases hf : freeZ xs n with
    | none => rw [hf] at k; exact k
    | some y =>
      rw [hf] at k
      obtain ⟨s, a, h1, h2⟩ := k
      refine ⟨s, a, h1, fun e => ?_⟩
      have hp : ¬ bindP 4 n x = true := fun e => hn (of_decide_eq_true e).2
      rw [great_snoc, if_neg hp, great_snoc, if_neg hp]
      exact h2 e
theorem twice_at (h : heldOk sz al xs H) {g : HoldM} (hb : x.bind = g.bind) (hl : 1 ≤ g.bind) (hq : offerZ (H x.name) g = none) : x.bind = 1 ∧ ∃ y ∈ xs, y.bind = 1 ∧ y.name = x.name := by
  have k := h x.name
  cases hf : freeZ xs x.name with
  | none => rw [hf] at k; have k : H x.name = none := k; rw [k] at hq; cases hq
  | some y =>
    rw [hf] at k
    obtain ⟨s, a, h1, -⟩ := k
    rw [h1] at hq
    unfold offerZ at hq
    dsimp only at hq
    by_cases c1 : g.bind < y.bind
    · rw [if_pos c1] at hq; cases hq
    rw [if_neg c1] at hq
    by_cases c2 : g.bind = 1
    · have hy := free_bind hf
      exact ⟨by omega, y, hy.2.2, by rcases hy.1 with e | e | e <;> omega, hy.2.1⟩
    · rw [if_neg c2] at hq
      split at hq <;> cases hq
theorem once_next (h : heldOk sz al xs H) (hn : noTwice xs) {g : HoldM} (hb : x.bind = g.bind) {q : HoldM} (hq : offerZ (H x.name) g = some q) : noTwice (xs ++ [x]) := by
  refine List.pairwise_append.2 ⟨hn, List.pairwise_singleton _ _, fun y hy z hz => ?_⟩
  rw [List.mem_singleton] at hz
  subst hz
  rintro ⟨h1, h2, h3⟩
  have k := h z.name
  cases hf : freeZ xs z.name with
  | none =>
    unfold freeZ at hf
    simp only [Option.or_eq_none_iff] at hf
    exact List.find?_eq_none.1 hf.1 y hy (decide_eq_true ⟨h1, h3⟩)
  | some u =>
    have hu : u.bind = 1 := by
      unfold freeZ at hf
      cases h1' : xs.find? (bindP 1 z.name) with
      | none => exact absurd (decide_eq_true (⟨h1, h3⟩ : y.bind = 1 ∧ y.name = z.name)) (List.find?_eq_none.1 h1' y hy)
      | some v => rw [h1'] at hf; simp at hf; subst hf; exact (find_bind h1').1
    rw [hf] at k
    obtain ⟨s, a, e1, -⟩ := k
    rw [e1] at hq
    unfold offerZ at hq
    dsimp only at hq
    rw [if_neg (by omega), if_pos (by omega)] at hq
    cases hq
theorem once_local (hn : noTwice xs) (hb : x.bind = 3) : noTwice (xs ++ [x]) := by
  refine List.pairwise_append.2 ⟨hn, List.pairwise_singleton _ _, fun y hy z hz => ?_⟩
  rw [List.mem_singleton] at hz
  subst hz
  rintro ⟨h1, h2, h3⟩
  omega
theorem once_not (hn : noTwice xs) : ¬ twiceP xs := by
  rintro ⟨i, k, x, y, hk, hx, hy, h1, h2, h3⟩
  obtain ⟨hi, rfl⟩ := List.getElem?_eq_some_iff.1 hx
  obtain ⟨hk', rfl⟩ := List.getElem?_eq_some_iff.1 hy
  exact List.pairwise_iff_getElem.1 hn k i hk' hi hk ⟨h2, h1, h3.symm⟩
theorem twice_snoc {ys : List ItemM} (h1 : x.bind = 1) (h2 : ∃ y ∈ xs, y.bind = 1 ∧ y.name = x.name) : twiceP (xs ++ x :: ys) := by
  obtain ⟨y, hy, h3, h4⟩ := h2
  obtain ⟨k, hk, rfl⟩ := List.getElem_of_mem hy
  refine ⟨xs.length, k, x, xs[k], hk, ?_, ?_, h1, h3, h4.symm⟩
  · rw [List.getElem?_append_right (Nat.le_refl _)]; simp
  · rw [List.getElem?_append_left hk, List.getElem?_eq_getElem hk]
end
/-! ### What is chosen -/
/-- Each name stands for one thing of its object. -/
def Uniq (all : List ItemM) : Prop := all.Pairwise fun x y => ¬ (x.obj = y.obj ∧ x.name = y.name)
theorem Uniq.eq {all : List ItemM} (h : Uniq all) {x y : ItemM} (hx : x ∈ all) (hy : y ∈ all) (h1 : x.obj = y.obj) (h2 : x.name = y.name) : x = y := by
  obtain ⟨i, hi, rfl⟩ := List.getElem_of_mem hx
  obtain ⟨j, hj, rfl⟩ := List.getElem_of_mem hy
  have k := List.pairwise_iff_getElem.1 h
  rcases (by omega : i < j ∨ i = j ∨ j < i) with c | c | c
  · exact absurd ⟨h1, h2⟩ (k i j hi hj c)
  · subst c; rfl
  · exact absurd ⟨h1.symm, h2.symm⟩ (k j i hj hi c)
def Binds (all : List ItemM) : Prop := ∀ x ∈ all, x.bind = 1 ∨ x.bind = 2 ∨ x.bind = 3 ∨ x.bind = 4 ∧ x.data = true
section
variable {sz al : ItemM → Int} {all : List ItemM} {H : Held} {x : ItemM}
theorem loc_self (hu : Uniq all) (hx : x ∈ all) (hb : x.bind = 3) : all.find? (locP x.obj x.name) = some x := by
  cases hf : all.find? (locP x.obj x.name) with
  | none => exact absurd (decide_eq_true (⟨hb, rfl, rfl⟩ : x.bind = 3 ∧ (x.obj : Int) = x.obj ∧ x.name = x.name)) (List.find?_eq_none.1 hf x hx)
  | some y =>
    have p := locP_iff (List.find?_some hf)
    rw [hu.eq (List.mem_of_find?_eq_some hf) hx (by omega) p.2.2]
theorem chose_local (hu : Uniq all) (hx : x ∈ all) (hb : x.bind = 3) (data : Bool) : choseP all data x = decide (x.data = data) := by
  unfold choseP
  rw [if_pos hb, mean_split, loc_self hu hx hb]
  simp
theorem free_some (hx : x ∈ all) (hb : x.bind = 1 ∨ x.bind = 2 ∨ x.bind = 4) : freeZ all x.name ≠ none := fun h => by
  unfold freeZ at h
  simp only [Option.or_eq_none_iff] at h
  have k : ∀ b, all.find? (bindP b x.name) = none → x.bind ≠ b := fun b hf e => List.find?_eq_none.1 hf x hx (decide_eq_true ⟨e, rfl⟩)
  rcases hb with e | e | e
  · exact k _ h.1 e
  · exact k _ h.2.1 e
  · exact k _ h.2.2 e
theorem chose_free (hu : Uniq all) (hx : x ∈ all) (hb : x.bind = 1 ∨ x.bind = 2 ∨ x.bind = 4) (hh : heldOk sz al all H) (data : Bool) : ∃ h, H x.name = some h ∧ choseP all data x = decide (h.obj = x.obj ∧ x.data = data) ∧
    (h.obj = x.obj → x.bind = 4 → h.size = greatZ sz (bindP 4 x.name) (sz x) all ∧ h.align = greatZ al (bindP 4 x.name) (al x) all) := by
  have k := hh x.name
  have hb3 : ¬ x.bind = 3 := by omega
  cases hf : freeZ all x.name with
  | none => exact absurd hf (free_some hx hb)
  | some y =>
    rw [hf] at k
    obtain ⟨s, a, h1, h2⟩ := k
    have hy := free_bind hf
    refine ⟨_, h1, ?_, fun e c => ?_⟩
    · unfold choseP
      rw [if_neg hb3, mean_free, hf]
      by_cases c : y.obj = x.obj
      · have := hu.eq hy.2.2 hx c hy.2.1
        subst this
        simp
      · have : ¬ y = x := fun e => c (by rw [e])
        simp [c, this]
    · have := hu.eq hy.2.2 hx e hy.2.1
      subst this
      exact h2 c
/-! ### What names mean -/
/-- Where an item is met by its name. -/
def keyI (x : ItemM) : Int × ByteArray := (if x.bind = 3 then (x.obj : Int) else -1, x.name)
abbrev Means := Int × ByteArray → Option (Bool × Nat)
def Means.put (M : Means) (k : Int × ByteArray) (v : Bool × Nat) : Means := fun k' => if k' = k then some v else M k'
/-- What the first i functions, and the first j data, are met by. -/
def meansOk (fs ds : List ItemM) (i j : Nat) (M : Means) : Prop :=
  (∀ k d p, M k = some (d, p) → ∃ x, (if d = true then ds else fs)[p]? = some x ∧ p < (if d = true then j else i) ∧ keyI x = k) ∧
  (∀ p x, p < i → fs[p]? = some x → M (keyI x) ≠ none) ∧ (∀ p x, p < j → ds[p]? = some x → M (keyI x) ≠ none)
theorem means_nil (fs ds : List ItemM) : meansOk fs ds 0 0 fun _ => none := ⟨fun k d p h => (by cases h), fun p x h => (by omega), fun p x h => (by omega)⟩
theorem put_some (M : Means) (k k' : Int × ByteArray) (v : Bool × Nat) (h : M k' ≠ none ∨ k' = k) : M.put k v k' ≠ none := by
  unfold Means.put
  split
  · simp
  · rcases h with h | h
    · exact h
    · exact absurd h ‹_›
theorem means_func {fs ds : List ItemM} {i j : Nat} {M : Means} (h : meansOk fs ds i j M) (hx : fs[i]? = some x) : meansOk fs ds (i + 1) j (M.put (keyI x) (false, i)) := by
  refine ⟨fun k d p hk => ?_, fun p y hp hy => ?_, fun p y hp hy => put_some _ _ _ _ (.inl (h.2.2 p y hp hy))⟩
  · unfold Means.put at hk
    split at hk
    · rename_i e
      cases hk
      exact ⟨x, by simpa using hx, by simp, e.symm⟩
    · obtain ⟨y, h1, h2, h3⟩ := h.1 k d p hk
      refine ⟨y, h1, ?_, h3⟩
      cases d
      · simp only [Bool.false_eq_true, if_false] at h2 ⊢; omega
      · simpa using h2
  · rcases (by omega : p < i ∨ p = i) with c | rfl
    · exact put_some _ _ _ _ (.inl (h.2.1 p y c hy))
    · rw [hx] at hy; cases hy
      exact put_some _ _ _ _ (.inr rfl)
theorem means_data {fs ds : List ItemM} {i j : Nat} {M : Means} (h : meansOk fs ds i j M) (hx : ds[j]? = some x) : meansOk fs ds i (j + 1) (M.put (keyI x) (true, j)) := by
  refine ⟨fun k d p hk => ?_, fun p y hp hy => put_some _ _ _ _ (.inl (h.2.1 p y hp hy)), fun p y hp hy => ?_⟩
  · unfold Means.put at hk
    split at hk
    · rename_i e
      cases hk
      exact ⟨x, by simpa using hx, by simp, e.symm⟩
    · obtain ⟨y, h1, h2, h3⟩ := h.1 k d p hk
      refine ⟨y, h1, ?_, h3⟩
      cases d
      · simpa using h2
      · simp only [if_true] at h2 ⊢; omega
  · rcases (by omega : p < j ∨ p = j) with c | rfl
    · exact put_some _ _ _ _ (.inl (h.2.2 p y c hy))
    · rw [hx] at hy; cases hy
      exact put_some _ _ _ _ (.inr rfl)
/-- What a name means as a place. -/
def placeO (all : List ItemM) (x : ItemM) : Bool × Int := (x.data, if x.data = true then placeZ (chosenZ all true) x else placeZ (chosenZ all false) x)
theorem chose_mean {o : Int} {n : ByteArray} (hu : Uniq all) (h : meanZ all o n = some x) : choseP all x.data x = true ∧ x ∈ all ∧ x.name = n ∧ (x.bind = 3 → (x.obj : Int) = o) ∧ (x.bind ≠ 3 → all.find? (locP o n) = none ∧ freeZ all n = some x) := by
  rw [mean_split] at h
  cases hf : all.find? (locP o n) with
  | some y =>
    rw [hf] at h
    simp at h
    subst h
    have p := locP_iff (List.find?_some hf)
    have hm := List.mem_of_find?_eq_some hf
    exact ⟨by rw [chose_local hu hm p.1]; simp, hm, p.2.2, fun _ => p.2.1, fun c => absurd p.1 c⟩
  | none =>
    rw [hf] at h
    simp only [Option.none_or] at h
    have hb := free_bind h
    have hb3 : ¬ x.bind = 3 := by omega
    refine ⟨?_, hb.2.2, hb.2.1, fun c => absurd c hb3, fun _ => ⟨rfl, h⟩⟩
    unfold choseP
    rw [if_neg hb3, mean_free, hb.2.1, h]
    simp
theorem mem_chosen {d : Bool} (hx : x ∈ all) (h : choseP all d x = true) : ∃ p : Nat, (chosenZ all d)[p]? = some x := by
  have : x ∈ chosenZ all d := List.mem_filter.2 ⟨hx, h⟩
  obtain ⟨p, hp, e⟩ := List.getElem_of_mem this
  exact ⟨p, by rw [List.getElem?_eq_getElem hp, e]⟩
theorem chosen_mem {d : Bool} {p : Nat} (h : (chosenZ all d)[p]? = some x) : x ∈ all ∧ x.data = d ∧ meanZ all (if x.bind = 3 then (x.obj : Int) else -1) x.name = some x := by
  have := List.mem_filter.1 (List.mem_of_getElem? h)
  have q := of_decide_eq_true this.2
  exact ⟨this.1, q.2, q.1⟩
theorem chosen_uniq (hu : Uniq all) (d : Bool) : Uniq (chosenZ all d) := List.Pairwise.sublist List.filter_sublist hu
theorem place_chosen (hu : Uniq all) {d : Bool} {p : Nat} (h : (chosenZ all d)[p]? = some x) : placeZ (chosenZ all d) x = p := by
  refine place_at (fun j y hj hy e => ?_) h
  subst e
  obtain ⟨h1, e1⟩ := List.getElem?_eq_some_iff.1 h
  obtain ⟨h2, e2⟩ := List.getElem?_eq_some_iff.1 hy
  exact List.pairwise_iff_getElem.1 (chosen_uniq hu d) j p h2 h1 hj ⟨by rw [e1, e2], by rw [e1, e2]⟩
/-- The look-up ends in what the name means. -/
theorem means_found (hu : Uniq all) {M : Means} (h : meansOk (chosenZ all false) (chosenZ all true) (chosenZ all false).length (chosenZ all true).length M) {k : Int × ByteArray} {d : Bool} {p : Nat} (hk : M k = some (d, p)) :
    ∃ x, placeO all x = (d, (p : Int)) ∧ keyI x = k ∧ meanZ all (if x.bind = 3 then (x.obj : Int) else -1) x.name = some x := by
  obtain ⟨x, h1, -, h3⟩ := h.1 k d p hk
  have h1 : (chosenZ all d)[p]? = some x := by cases d <;> simpa using h1
  have hm := chosen_mem h1
  refine ⟨x, ?_, h3, hm.2.2⟩
  unfold placeO
  rw [hm.2.1]
  cases d
  · simp [place_chosen hu h1]
  · simp [place_chosen hu h1]
theorem means_has (hu : Uniq all) {M : Means} (h : meansOk (chosenZ all false) (chosenZ all true) (chosenZ all false).length (chosenZ all true).length M) {o : Int} {n : ByteArray} (hm : meanZ all o n = some x) : M (keyI x) ≠ none := by
  have hc := chose_mean hu hm
  cases hd : x.data with
  | false =>
    rw [hd] at hc
    obtain ⟨p, hp⟩ := mem_chosen hc.2.1 hc.1
    exact h.2.1 p x (List.getElem?_eq_some_iff.1 hp).1 hp
  | true =>
    rw [hd] at hc
    obtain ⟨p, hp⟩ := mem_chosen hc.2.1 hc.1
    exact h.2.2 p x (List.getElem?_eq_some_iff.1 hp).1 hp
/-- What a name means, of no object. -/
theorem means_free (hu : Uniq all) {M : Means} (h : meansOk (chosenZ all false) (chosenZ all true) (chosenZ all false).length (chosenZ all true).length M) (n : ByteArray) :
    (M (-1, n)).map (fun v => (v.1, (v.2 : Int))) = (meanZ all (-1) n).map (placeO all) := by
  cases hk : M (-1, n) with
  | some v =>
    obtain ⟨d, p⟩ := v
    obtain ⟨x, h1, h2, h3⟩ := means_found hu h hk
    have hb : ¬ x.bind = 3 := fun e => by
      have := congrArg Prod.fst h2
      simp [keyI, e] at this
    rw [if_neg hb] at h3
    have h4 : x.name = n := by have := congrArg Prod.snd h2; exact this
    rw [h4] at h3
    rw [h3]
    simp [h1]
  | none =>
    cases hm : meanZ all (-1) n with
    | none => rfl
    | some x =>
      have h1 := means_has hu h hm
      have hc := chose_mean hu hm
      have hb : ¬ x.bind = 3 := fun e => by have := hc.2.2.2.1 e; omega
      have : keyI x = (-1, n) := by unfold keyI; rw [if_neg hb, hc.2.2.1]
      rw [this] at h1
      exact absurd hk h1
/-- What a name means in an object: its own ahead of all others. -/
theorem means_find (hu : Uniq all) {M : Means} (h : meansOk (chosenZ all false) (chosenZ all true) (chosenZ all false).length (chosenZ all true).length M) (o : Nat) (n : ByteArray) :
    (((M (o, n)).or (M (-1, n))).map fun v => (v.1, (v.2 : Int))) = (meanZ all o n).map (placeO all) := by
  cases hk : M (o, n) with
  | some v =>
    obtain ⟨d, p⟩ := v
    obtain ⟨x, h1, h2, h3⟩ := means_found hu h hk
    have hb : x.bind = 3 := by
      by_cases e : x.bind = 3
      · exact e
      · have := congrArg Prod.fst h2
        simp [keyI, e] at this
    rw [if_pos hb] at h3
    have h4 : x.name = n := by have := congrArg Prod.snd h2; exact this
    have h5 : (x.obj : Int) = o := by have := congrArg Prod.fst h2; simpa [keyI, hb] using this
    rw [h4, h5] at h3
    rw [h3]
    simp [h1]
  | none =>
    have e : meanZ all o n = meanZ all (-1) n := by
      rw [mean_split, mean_free]
      cases hf : all.find? (locP o n) with
      | none => rfl
      | some x =>
        have hm : meanZ all o n = some x := by rw [mean_split, hf]; rfl
        have h1 := means_has hu h hm
        have p := locP_iff (List.find?_some hf)
        have : keyI x = ((o : Int), n) := by unfold keyI; rw [if_pos p.1, p.2.1, p.2.2]
        rw [this] at h1
        exact absurd hk h1
    rw [e, ← means_free hu h n, Option.none_or]
end
open Go.ChangeShapes Go.WideShapes Go.ChangeAt Go.RowKit Go.Maps
set_option linter.unusedVariables false
set_option linter.unusedSimpArgs false
theorem laid11 : laidOutB Tryz.prog = true := by kernel_rfl
theorem row11 : (124 : TypeId) < Tryz.prog.types.size := of_decide_eq_true (by kernel_rfl)
theorem wide11 : (match Tryz.prog.underlying 124 with | some (.array _ _) | some (.struct _) => true | _ => false) = true := by kernel_rfl
theorem type11 : Tryz.prog.keyType 124 = true := by kernel_rfl
theorem cells11 : Tryz.prog.cellsOf 124 = 2 := by kernel_rfl
theorem kta11 : Tryz.prog.keyTypeAt 3 124 = true := by kernel_rfl
set_option maxRecDepth 100000 in
theorem law11 : Keyed Tryz.prog 124 := Keyed.of_law (deep_law_laid laid11 (m := 3) (by omega) row11 kta11 wide11)
theorem lits11 (d : Nat) {o : Int} {s : ByteArray} (ho : (Lit.int .i64 o).wf = true) (hs : s.size ≤ maxLen) : Tryz.prog.keyLits (d + 2) 124 [.int .i64 o, .string s] = some [.int .i64 o, .string s.data.toList] := by
  have e3 : Tryz.prog.cellsOf 3 = 1 := by kernel_rfl
  have e9 : Tryz.prog.cellsOf 9 = 1 := by kernel_rfl
  have f3 : Tryz.prog.keyLits (d + 1) 3 [.int .i64 o] = some [.int .i64 o] := by
    unfold Program.keyLits; rw [Tryz.underlying3]; simp [ho]
  have f9 : Tryz.prog.keyLits (d + 1) 9 [.string s] = some [.string s.data.toList] := by
    unfold Program.keyLits; rw [Tryz.underlying9]; simp [hs]
  unfold Program.keyLits
  rw [Tryz.underlying124]
  simp [cells11, e3, e9, f3, f9]
theorem size11 : ∃ d, Tryz.prog.types.size + 1 = d + 2 := ⟨Tryz.prog.types.size - 1, by have : 0 < Tryz.prog.types.size := Nat.lt_of_le_of_lt (Nat.zero_le _) row11; omega⟩
def keyV (x : Int × ByteArray) : Value := .agg #[.int .i64 x.1, .string x.2]
theorem keyOf11 {x : Int × ByteArray} (ho : (Lit.int .i64 x.1).wf = true) (hs : x.2.size ≤ maxLen) : ∃ l, keyOf Tryz.prog 124 (keyV x) = some l := by
  obtain ⟨d, ed⟩ := size11
  have fm : (keyV x).formed Tryz.prog 124 = true := by simp [Value.formed, keyV, Tryz.underlying124, cells11]
  have e : Tryz.prog.keyLits (Tryz.prog.types.size + 1) 124 (keyV x).cells.toList = some [.int .i64 x.1, .string x.2.data.toList] := by rw [ed]; exact lits11 d ho hs
  unfold keyOf
  rw [Tryz.underlying124]
  dsimp only
  rw [type11, fm, e]
  exact ⟨_, rfl⟩
/-- A map by names. -/
def strT : KeyT Tryz.prog 9 ByteArray where
  ek := .string
  good s := s.size ≤ maxLen
  key := string_keyed Tryz.underlying9
  reads s h := ⟨_, by simp [keyOf, Tryz.underlying9, mapKey, h]; rfl⟩
  inj s t _ _ h := by injection h
/-- A map by names of objects. -/
def keyT : KeyT Tryz.prog 124 (Int × ByteArray) where
  ek := keyV
  good x := (Lit.int .i64 x.1).wf = true ∧ x.2.size ≤ maxLen
  key := law11
  reads x h := keyOf11 h.1 h.2
  inj x y _ _ h := by
    simp [keyV] at h
    exact Prod.ext h.1 h.2
def holdV (h : HoldM) : Value := .agg #[.int .i64 (h.obj : Int), .int .i64 h.bind, .int .i64 h.size, .int .i64 h.align]
def meanV (m : Bool × Nat) : Value := .agg #[.bool m.1, .int .i64 (m.2 : Int)]
theorem zeroHold (w : World) : (zeroValue 90).run Tryz.prog w = .ok (.agg #[.int .i64 0, .int .i64 0, .int .i64 0, .int .i64 0]) w := by kernel_rfl
theorem zeroMean (w : World) : (zeroValue 122).run Tryz.prog w = .ok (.agg #[.bool false, .int .i64 0]) w := by kernel_rfl
/-- What is held of names, in memory. -/
def HeldAt (w : World) (b n : Nat) (H : Held) : Prop := MapAt strT holdV w b n H
/-- What names mean, in memory. -/
def MeansAt (w : World) (b n : Nat) (M : Means) : Prop := MapAt keyT meanV w b n M
/-! ### At the operation -/
section
variable {w : World} {b n : Nat} {ops : Array Oper} {rest : List Oper} {o : Oper} {a : Act} {Q : Exit → Act → World → Prop}
theorem wpList_held_ok {H : Held} (hg : o.guard = none) (m x : Operand) (hop : o.op = Op.lookup 59 m x true) (h : HeldAt w b n H) (hm : a.eval m = .map (some b)) (s : ByteArray) (hx : a.eval x = .string s) (hs : s.size ≤ maxLen)
    (r : Option HoldM) (hr : H s = r) (v : Value) (hv : r.elim (.agg #[.int .i64 0, .int .i64 0, .int .i64 0, .int .i64 0]) holdV = v) (c : Bool) (hc : r.isSome = c) (hK : wpList Tryz.prog ops Q rest (a.put o.dst (.tuple #[v, .bool c])) w) : wpList Tryz.prog ops Q (o :: rest) a w :=
  wpList_map_ok hg m x _ hop h 90 Tryz.underlying59 (zeroHold w) hm s hx hs hr (by rw [hv, hc]; exact hK)
theorem wpList_held_look {H : Held} (hg : o.guard = none) (m x : Operand) (hop : o.op = Op.lookup 59 m x false) (h : HeldAt w b n H) (hm : a.eval m = .map (some b)) (s : ByteArray) (hx : a.eval x = .string s) (hs : s.size ≤ maxLen)
    (r : Option HoldM) (hr : H s = r) (v : Value) (hv : r.elim (.agg #[.int .i64 0, .int .i64 0, .int .i64 0, .int .i64 0]) holdV = v) (hK : wpList Tryz.prog ops Q rest (a.put o.dst v) w) : wpList Tryz.prog ops Q (o :: rest) a w :=
  wpList_map_look hg m x _ hop h 90 Tryz.underlying59 (zeroHold w) hm s hx hs hr (by rw [hv]; exact hK)
theorem wpList_held_store {H : Held} (hg : o.guard = none) (m x v : Operand) (hop : o.op = Op.mapUpdate 59 m x v) (h : HeldAt w b n H) (hn : n < maxLen) (hm : a.eval m = .map (some b)) (s : ByteArray) (hx : a.eval x = .string s) (hs : s.size ≤ maxLen)
    (q : HoldM) (hv : a.eval v = holdV q) (hK : ∀ w', HeldAt w' b (n + 1) (H.put s q) → w.grownBy w' (some b) → wpList Tryz.prog ops Q rest (a.put o.dst undef) w') : wpList Tryz.prog ops Q (o :: rest) a w :=
  wpList_map_store hg m x v _ hop h 90 Tryz.underlying59 hn hm s hx hs q hv (H.put s q) (if_pos rfl) (fun y _ hy => if_neg hy) hK
theorem wpList_means_ok {M : Means} (hg : o.guard = none) (m x : Operand) (hop : o.op = Op.lookup 91 m x true) (h : MeansAt w b n M) (hm : a.eval m = .map (some b)) (k : Int) (s : ByteArray) (hx : a.eval x = .agg #[.int .i64 k, .string s]) (hs : (Lit.int .i64 k).wf = true ∧ s.size ≤ maxLen)
    (r : Option (Bool × Nat)) (hr : M (k, s) = r) (v : Value) (hv : r.elim (.agg #[.bool false, .int .i64 0]) meanV = v) (c : Bool) (hc : r.isSome = c) (hK : wpList Tryz.prog ops Q rest (a.put o.dst (.tuple #[v, .bool c])) w) : wpList Tryz.prog ops Q (o :: rest) a w :=
  wpList_map_ok hg m x _ hop h 122 Tryz.underlying91 (zeroMean w) hm (k, s) hx hs hr (by rw [hv, hc]; exact hK)
theorem wpList_means_store {M : Means} (hg : o.guard = none) (m x v : Operand) (hop : o.op = Op.mapUpdate 91 m x v) (h : MeansAt w b n M) (hn : n < maxLen) (hm : a.eval m = .map (some b)) (k : Int) (s : ByteArray) (hx : a.eval x = .agg #[.int .i64 k, .string s]) (hs : (Lit.int .i64 k).wf = true ∧ s.size ≤ maxLen)
    (q : Bool × Nat) (hv : a.eval v = .agg #[.bool q.1, .int .i64 (q.2 : Int)]) (hK : ∀ w', MeansAt w' b (n + 1) (M.put (k, s) q) → w.grownBy w' (some b) → wpList Tryz.prog ops Q rest (a.put o.dst undef) w') : wpList Tryz.prog ops Q (o :: rest) a w :=
  wpList_map_store hg m x v _ hop h 122 Tryz.underlying91 hn hm (k, s) hx hs q hv (M.put (k, s) q) (if_pos rfl) (fun y _ hy => if_neg hy) hK
end
end Go.Proofs.YteakbpcmafdikaaGreatDoor
