/- What a relocation makes of a word and of four bytes, and all of them one behind the other. No condition. -/
import Derived.Test.YtombfnnpdamlgaaDoorPatKit
namespace Go.Proofs.YtombfnnpdamlgaaDoor
set_option linter.unusedVariables false
set_option linter.unusedSimpArgs false
def plc (l : List Int) (k : Int) : Int := l.getD k.toNat (-1)
def valZ (x : PlanZ) (r : PRelM) : Int := 65536 + plc x.data r.to + r.add
def becZ (x : PlanZ) (r : PRelM) (at_ : Int) : Option Int :=
  if r.kind = 1 then (if 0 ≤ plc x.code r.to then some (plc x.code r.to - at_ - 1) else none)
  else if 0 ≤ valZ x r then some (if r.kind = 2 then valZ x r / 65536 else valZ x r % 65536) else none
def withZ (w imm : Int) : Option Int := if okG w = true ∧ rightB (gO w) (gA w) (gB w) (gC w) imm = true then some (putZ (gO w) (gA w) (gB w) (gC w) imm) else none
def wordZ (x : PlanZ) (c : Int) (r : PRelM) (w : Int) : Option Int := (becZ x r (c + r.at_)).bind (withZ w)
def relStep (x : PlanZ) (c : Int) (o : Option (List Int)) (r : PRelM) : Option (List Int) := o.bind fun ws => (wordZ x c r (ws.getD r.at_.toNat 0)).map fun w => ws.set r.at_.toNat w
/-- The words with these relocations done; none, if one doesn't fit. -/
def relsZ (x : PlanZ) (c : Int) (rs : List PRelM) (ws : List Int) : Option (List Int) := rs.foldl (relStep x c) (some ws)
def put4 (bs : List Int) (k : Nat) (v : Int) : List Int := (((bs.set k (v % 256)).set (k + 1) (v / 256 % 256)).set (k + 2) (v / 65536 % 256)).set (k + 3) (v / 16777216 % 256)
def datStep (x : PlanZ) (o : Option (List Int)) (r : PRelM) : Option (List Int) := o.bind fun bs => if 0 ≤ valZ x r then some (put4 bs r.at_.toNat (valZ x r)) else none
/-- The bytes with these relocations done. -/
def datsZ (x : PlanZ) (rs : List PRelM) (bs : List Int) : Option (List Int) := rs.foldl (datStep x) (some bs)
/-- A function's words; the data's bytes. -/
def codeZ (x : PlanZ) (c : Int) (F : PFuncM) : Option (List Int) := relsZ x c F.rels F.code
def fillZ (D : PDataM) : List Int := D.bytes ++ List.replicate (D.size.toNat - D.bytes.length) 0
def dataZ (x : PlanZ) (D : PDataM) : Option (List Int) := datsZ x D.rels (fillZ D)
section
variable {α β : Type} {f : Option α → β → Option α}
theorem foldO_none (hf : ∀ b, f none b = none) : ∀ (l : List β), l.foldl f none = none
  | [] => rfl
  | b :: l => by rw [List.foldl_cons, hf]; exact foldO_none hf l
theorem foldO_next {o : Option α} {l : List β} {k : Nat} {b : β} (h : l[k]? = some b) : (l.take (k + 1)).foldl f o = f ((l.take k).foldl f o) b := by
  rw [List.take_add_one, h, List.foldl_append]; rfl
theorem foldO_stop (hf : ∀ b, f none b = none) {o : Option α} {l : List β} {k : Nat} (h : (l.take k).foldl f o = none) : l.foldl f o = none := by
  rw [← List.take_append_drop k l, List.foldl_append, h]
  exact foldO_none hf _
/-- What holds ahead and is kept by each holds behind. -/
theorem foldO_all {P : α → Prop} (hf : ∀ b, f none b = none) : ∀ (l : List β) (a a' : α), (∀ b ∈ l, ∀ a a', P a → f (some a) b = some a' → P a') → P a → l.foldl f (some a) = some a' → P a'
  | [], a, a', _, h, e => by injection e with e; rw [← e]; exact h
  | b :: l, a, a', hs, h, e => by
    rw [List.foldl_cons] at e
    cases hb : f (some a) b with
    | none => rw [hb, foldO_none hf] at e; cases e
    | some a1 =>
      rw [hb] at e
      exact foldO_all hf l a1 a' (fun b hb => hs b (List.mem_cons_of_mem _ hb)) (hs b (List.mem_cons_self ..) a a1 h hb) e
end
theorem relStep_none (x : PlanZ) (c : Int) (r : PRelM) : relStep x c none r = none := rfl
theorem datStep_none (x : PlanZ) (r : PRelM) : datStep x none r = none := rfl
theorem relStep_some {x : PlanZ} {c : Int} {r : PRelM} {ws ws' : List Int} (h : relStep x c (some ws) r = some ws') : ∃ w, wordZ x c r (ws.getD r.at_.toNat 0) = some w ∧ ws' = ws.set r.at_.toNat w := by
  simp only [relStep, Option.bind_some, Option.map_eq_some_iff] at h
  obtain ⟨w, h1, h2⟩ := h
  exact ⟨w, h1, h2.symm⟩
theorem datStep_some {x : PlanZ} {r : PRelM} {bs bs' : List Int} (h : datStep x (some bs) r = some bs') : 0 ≤ valZ x r ∧ bs' = put4 bs r.at_.toNat (valZ x r) := by
  simp only [datStep, Option.bind_some] at h
  split at h
  · rename_i hv
    injection h with h
    exact ⟨hv, h.symm⟩
  · cases h
theorem put4_len (bs : List Int) (k : Nat) (v : Int) : (put4 bs k v).length = bs.length := by simp [put4]
theorem put4_get (bs : List Int) (k : Nat) (v : Int) (j : Nat) (hk : k + 4 ≤ bs.length) : (put4 bs k v)[j]? = if j = k then some (v % 256) else if j = k + 1 then some (v / 256 % 256) else if j = k + 2 then some (v / 65536 % 256) else if j = k + 3 then some (v / 16777216 % 256) else bs[j]? := by
  unfold put4
  simp only [List.getElem?_set, List.length_set]
  by_cases h3 : k + 3 = j
  · subst h3
    rw [if_pos rfl, if_pos (by omega), if_neg (by omega), if_neg (by omega), if_neg (by omega), if_pos rfl]
  rw [if_neg h3]
  by_cases h2 : k + 2 = j
  · subst h2
    rw [if_pos rfl, if_pos (by omega), if_neg (by omega), if_neg (by omega), if_pos rfl]
  rw [if_neg h2]
  by_cases h1 : k + 1 = j
  · subst h1
    rw [if_pos rfl, if_pos (by omega), if_neg (by omega), if_pos rfl]
  rw [if_neg h1]
  by_cases h0 : k = j
  · subst h0
    rw [if_pos rfl, if_pos (by omega), if_pos rfl]
  rw [if_neg h0, if_neg (by omega), if_neg (by omega), if_neg (by omega), if_neg (by omega)]
theorem put4_byt {bs : List Int} {k : Nat} {v : Int} (h : Byt bs) : Byt (put4 bs k v) := by
  intro x hx
  unfold put4 at hx
  rcases List.mem_or_eq_of_mem_set hx with hx | rfl
  · rcases List.mem_or_eq_of_mem_set hx with hx | rfl
    · rcases List.mem_or_eq_of_mem_set hx with hx | rfl
      · rcases List.mem_or_eq_of_mem_set hx with hx | rfl
        · exact h x hx
        · omega
      · omega
    · omega
  · omega
theorem putZ_range {op a b c imm : Int} (h : rightB op a b c imm = true) : 0 ≤ putZ op a b c imm ∧ putZ op a b c imm < 4294967296 := by
  obtain ⟨a0, a1, b0, b1, c0, c1⟩ := right_regs _ _ _ _ _ h
  obtain ⟨n1, n2, n3⟩ := right_none _ _ _ _ _ h
  have hop : 0 ≤ op ∧ op < 26 := by simp [rightB] at h; omega
  unfold putZ
  rcases kinds op hop.1 hop.2 with ⟨hw, _⟩ | ⟨hw, hr, _, _⟩ | ⟨hw, hr, _, _⟩ | ⟨hw, hr, _⟩
  · rw [hw, cut_0]; omega
  · rw [hw, cut_16, n1 hr]; omega
  · rw [hw, cut_8, n1 (by omega)]; omega
  · rw [hw, cut_24, n1 (by omega), n2 (by omega), n3 (by omega)]; omega
theorem withZ_range {w imm u : Int} (h : withZ w imm = some u) : 0 ≤ u ∧ u < 4294967296 := by
  unfold withZ at h
  split at h
  · rename_i hc
    injection h with h
    rw [← h]
    exact putZ_range hc.2
  · cases h
theorem relsZ_next {x : PlanZ} {c : Int} {rs : List PRelM} {ws : List Int} {k : Nat} {r : PRelM} (h : rs[k]? = some r) : relsZ x c (rs.take (k + 1)) ws = relStep x c (relsZ x c (rs.take k) ws) r := foldO_next h
theorem datsZ_next {x : PlanZ} {rs : List PRelM} {bs : List Int} {k : Nat} {r : PRelM} (h : rs[k]? = some r) : datsZ x (rs.take (k + 1)) bs = datStep x (datsZ x (rs.take k) bs) r := foldO_next h
theorem relsZ_stop {x : PlanZ} {c : Int} {rs : List PRelM} {ws : List Int} {k : Nat} (h : relsZ x c (rs.take k) ws = none) : relsZ x c rs ws = none := foldO_stop (relStep_none x c) h
theorem datsZ_stop {x : PlanZ} {rs : List PRelM} {bs : List Int} {k : Nat} (h : datsZ x (rs.take k) bs = none) : datsZ x rs bs = none := foldO_stop (datStep_none x) h
theorem relsZ_keeps {x : PlanZ} {c : Int} {rs : List PRelM} {ws ws' : List Int} (h : relsZ x c rs ws = some ws') : ws'.length = ws.length ∧ (Wrd ws → Wrd ws') := by
  refine ⟨?_, fun hw => ?_⟩
  · refine foldO_all (P := fun a => a.length = ws.length) (relStep_none x c) rs ws ws' (fun r _ a a' ha e => ?_) rfl h
    obtain ⟨w, -, rfl⟩ := relStep_some e
    simpa using ha
  · refine foldO_all (P := Wrd) (relStep_none x c) rs ws ws' (fun r _ a a' ha e => ?_) hw h
    obtain ⟨w, h1, rfl⟩ := relStep_some e
    intro y hy
    rcases List.mem_or_eq_of_mem_set hy with hy | rfl
    · exact ha y hy
    · unfold wordZ at h1
      rw [Option.bind_eq_some_iff] at h1
      obtain ⟨i, -, h2⟩ := h1
      exact withZ_range h2
theorem datsZ_keeps {x : PlanZ} {rs : List PRelM} {bs bs' : List Int} (h : datsZ x rs bs = some bs') : bs'.length = bs.length ∧ (Byt bs → Byt bs') := by
  refine ⟨?_, fun hw => ?_⟩
  · refine foldO_all (P := fun a => a.length = bs.length) (datStep_none x) rs bs bs' (fun r _ a a' ha e => ?_) rfl h
    obtain ⟨-, rfl⟩ := datStep_some e
    rw [put4_len]; exact ha
  · refine foldO_all (P := Byt) (datStep_none x) rs bs bs' (fun r _ a a' ha e => ?_) hw h
    obtain ⟨-, rfl⟩ := datStep_some e
    exact put4_byt ha
/-- What no relocation has stays. -/
theorem relsZ_stay {x : PlanZ} {c : Int} {rs : List PRelM} {ws ws' : List Int} (h : relsZ x c rs ws = some ws') {j : Nat} (hj : ∀ r ∈ rs, r.at_.toNat ≠ j) : ws'[j]? = ws[j]? := by
  refine foldO_all (P := fun a => a[j]? = ws[j]?) (relStep_none x c) rs ws ws' (fun r hr a a' ha e => ?_) rfl h
  obtain ⟨w, -, rfl⟩ := relStep_some e
  rw [List.getElem?_set, if_neg (hj r hr)]
  exact ha
/-! ### Right programs -/
def RelF (nf nd : Nat) (code : List Int) (r : PRelM) : Prop := 0 ≤ r.at_ ∧ r.at_ < code.length ∧ -1048576 ≤ r.add ∧ r.add ≤ 1048576 ∧ 0 ≤ r.to ∧ okG (code.getD r.at_.toNat 0) = true ∧
  ((r.kind = 1 ∧ (gO (code.getD r.at_.toNat 0) = 19 ∨ gO (code.getD r.at_.toNat 0) = 20) ∧ r.to < nf) ∨ (((r.kind = 2 ∧ gO (code.getD r.at_.toNat 0) = 9) ∨ (r.kind = 3 ∧ gO (code.getD r.at_.toNat 0) = 10)) ∧ r.to < nd))
def RelD (nd : Nat) (size : Int) (r : PRelM) : Prop := r.kind = 4 ∧ 0 ≤ r.at_ ∧ r.at_ ≤ size - 4 ∧ 0 ≤ r.to ∧ r.to < nd ∧ -1048576 ≤ r.add ∧ r.add ≤ 1048576
def Asc (gap : Int) (rs : List PRelM) : Prop := ∀ (k : Nat) r s, rs[k]? = some r → rs[k + 1]? = some s → r.at_ + gap ≤ s.at_
def FnOk (nf nd : Nat) (F : PFuncM) : Prop := (∀ r ∈ F.rels, RelF nf nd F.code r) ∧ Asc 1 F.rels
def DtOk (nd : Nat) (D : PDataM) : Prop := (∀ r ∈ D.rels, RelD nd D.size r) ∧ Asc 4 D.rels
def RightP (p : ProgM) : Prop := (∀ F ∈ p.funcs, FnOk p.funcs.length p.datas.length F) ∧ ∀ D ∈ p.datas, DtOk p.datas.length D
theorem asc_lt {gap : Int} {rs : List PRelM} (h : Asc gap rs) (hg : 0 ≤ gap) : ∀ (n i : Nat) {r s : PRelM}, rs[i]? = some r → rs[i + n + 1]? = some s → r.at_ + gap ≤ s.at_
  | 0, i, r, s, h1, h2 => h i r s h1 h2
  | n + 1, i, r, s, h1, h2 => by
    have hl : i + n + 1 < rs.length := by have := (List.getElem?_eq_some_iff.1 h2).1; omega
    have h3 := asc_lt h hg n i h1 (List.getElem?_eq_getElem hl)
    have h4 := h (i + n + 1) _ _ (List.getElem?_eq_getElem hl) h2
    omega
theorem asc_of {gap : Int} {rs : List PRelM} (h : Asc gap rs) (hg : 0 ≤ gap) {i j : Nat} {r s : PRelM} (h1 : rs[i]? = some r) (h2 : rs[j]? = some s) (hij : i < j) : r.at_ + gap ≤ s.at_ := by
  obtain ⟨n, rfl⟩ : ∃ n, j = i + n + 1 := ⟨j - i - 1, by omega⟩
  exact asc_lt h hg n i h1 h2
/-- Ahead of a relocation its word is as it was. -/
theorem relsZ_was {nf nd : Nat} {F : PFuncM} (h : FnOk nf nd F) {x : PlanZ} {c : Int} {k : Nat} {r : PRelM} (hr : F.rels[k]? = some r) {ws : List Int} (hw : relsZ x c (F.rels.take k) F.code = some ws) : ws.getD r.at_.toNat 0 = F.code.getD r.at_.toNat 0 := by
  have : ws[r.at_.toNat]? = F.code[r.at_.toNat]? := relsZ_stay hw fun s hs e => by
    obtain ⟨i, hi⟩ := List.mem_iff_getElem?.1 hs
    rw [List.getElem?_take] at hi
    split at hi
    · rename_i hik
      have h1 := asc_of h.2 (by omega) hi hr hik
      have h2 := (h.1 s (List.mem_of_getElem? hi)).1
      have h3 := (h.1 r (List.mem_of_getElem? hr)).1
      omega
    · cases hi
  rw [List.getD_eq_getElem?_getD, List.getD_eq_getElem?_getD, this]
/-- The plan, as far as patch looks at it. -/
structure PlanOk (nf nd : Nat) (x : PlanZ) : Prop where
  nc : x.code.length = nf
  hc : ∀ c ∈ x.code, -1 ≤ c ∧ c ≤ 65536
  nd : x.data.length = nd
  hd : ∀ a ∈ x.data, 0 ≤ a ∧ a ≤ 65536
theorem plc_get {l : List Int} {k : Int} (h0 : 0 ≤ k) (h1 : k < l.length) : l[k.toNat]? = some (plc l k) ∧ plc l k ∈ l := by
  have hk : k.toNat < l.length := by omega
  have : l[k.toNat]? = some (plc l k) := by unfold plc; rw [List.getD_eq_getElem?_getD, List.getElem?_eq_getElem hk]; rfl
  exact ⟨this, List.mem_of_getElem? this⟩
theorem PlanOk.val {nf nd : Nat} {x : PlanZ} (h : PlanOk nf nd x) {r : PRelM} (h0 : 0 ≤ r.to) (h1 : r.to < nd) : x.data[r.to.toNat]? = some (plc x.data r.to) ∧ 0 ≤ plc x.data r.to ∧ plc x.data r.to ≤ 65536 := by
  obtain ⟨e, m⟩ := plc_get (l := x.data) h0 (by rw [h.nd]; exact h1)
  exact ⟨e, h.hd _ m⟩
theorem PlanOk.fun_ {nf nd : Nat} {x : PlanZ} (h : PlanOk nf nd x) {k : Int} (h0 : 0 ≤ k) (h1 : k < nf) : x.code[k.toNat]? = some (plc x.code k) ∧ -1 ≤ plc x.code k ∧ plc x.code k ≤ 65536 := by
  obtain ⟨e, m⟩ := plc_get (l := x.code) h0 (by rw [h.nc]; exact h1)
  exact ⟨e, h.hc _ m⟩
end Go.Proofs.YtombfnnpdamlgaaDoor
