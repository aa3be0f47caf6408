/- What stands where behind a patch, over lists. No condition. -/
import Derived.Test.YtombfnnpdamlgaaDoorPatMath
namespace Go.Proofs.YtombfnnpdamlgaaDoor
set_option linter.unusedVariables false
set_option linter.unusedSimpArgs false
theorem relsZ_drop {x : PlanZ} {c : Int} {rs : List PRelM} {ws ws' : List Int} {k : Nat} (h : relsZ x c (rs.take k) ws = some ws') : relsZ x c rs ws = relsZ x c (rs.drop k) ws' := by
  unfold relsZ at h ⊢
  conv => lhs; rw [← List.take_append_drop k rs, List.foldl_append, h]
theorem datsZ_drop {x : PlanZ} {rs : List PRelM} {bs bs' : List Int} {k : Nat} (h : datsZ x (rs.take k) bs = some bs') : datsZ x rs bs = datsZ x (rs.drop k) bs' := by
  unfold datsZ at h ⊢
  conv => lhs; rw [← List.take_append_drop k rs, List.foldl_append, h]
theorem asc_drop {gap : Int} {rs : List PRelM} (h : Asc gap rs) (hg : 0 ≤ gap) {k : Nat} {r s : PRelM} (hr : rs[k]? = some r) (hs : s ∈ rs.drop (k + 1)) : r.at_ + gap ≤ s.at_ := by
  obtain ⟨j, hj⟩ := List.mem_iff_getElem?.1 hs
  rw [List.getElem?_drop] at hj
  exact asc_of h hg hr hj (by omega)
theorem asc_take {gap : Int} {rs : List PRelM} (h : Asc gap rs) (hg : 0 ≤ gap) {k : Nat} {r s : PRelM} (hr : rs[k]? = some r) (hs : s ∈ rs.take k) : s.at_ + gap ≤ r.at_ := by
  obtain ⟨j, hj⟩ := List.mem_iff_getElem?.1 hs
  rw [List.getElem?_take] at hj
  split at hj
  · exact asc_of h hg hj hr (by omega)
  · cases hj
/-- A word that a relocation has. -/
theorem codeZ_at {nf nd : Nat} {F : PFuncM} (h : FnOk nf nd F) {x : PlanZ} {c : Int} {L : List Int} (hz : codeZ x c F = some L) {k : Nat} {r : PRelM} (hr : F.rels[k]? = some r) :
    ∃ y imm, F.code[r.at_.toNat]? = some y ∧ okG y = true ∧ becZ x r (c + r.at_) = some imm ∧ rightB (gO y) (gA y) (gB y) (gC y) imm = true ∧ L[r.at_.toNat]? = some (putZ (gO y) (gA y) (gB y) (gC y) imm) := by
  have hR := h.1 r (List.mem_of_getElem? hr)
  have hlt : r.at_.toNat < F.code.length := by have := hR.1; have := hR.2.1; omega
  obtain ⟨y, hy⟩ := get_some hlt
  have hgd : F.code.getD r.at_.toNat 0 = y := by rw [List.getD_eq_getElem?_getD, hy]; rfl
  unfold codeZ at hz
  cases hk : relsZ x c (F.rels.take k) F.code with
  | none => rw [relsZ_stop hk] at hz; cases hz
  | some ws =>
    have hwas := relsZ_was h hr hk
    have hnext := relsZ_next (x := x) (c := c) (ws := F.code) hr
    rw [hk] at hnext
    cases hk1 : relsZ x c (F.rels.take (k + 1)) F.code with
    | none => rw [relsZ_stop hk1] at hz; cases hz
    | some ws' =>
      rw [hk1] at hnext
      obtain ⟨u, h1, h2⟩ := relStep_some hnext.symm
      rw [hwas, hgd] at h1
      unfold wordZ at h1
      rw [Option.bind_eq_some_iff] at h1
      obtain ⟨imm, h3, h4⟩ := h1
      unfold withZ at h4
      split at h4
      · rename_i hc
        injection h4 with h4
        refine ⟨y, imm, hy, hc.1, h3, hc.2, ?_⟩
        rw [relsZ_drop hk1] at hz
        rw [relsZ_stay hz (j := r.at_.toNat) (fun s hs e => by
          have h5 := asc_drop h.2 (by omega) hr hs
          have h6 := hR.1
          omega), h2, List.getElem?_set, if_pos rfl, if_pos (by rw [(relsZ_keeps hk).1]; exact hlt), h4]
      · cases h4
/-- A word that none has. -/
theorem codeZ_stay {nf nd : Nat} {F : PFuncM} (h : FnOk nf nd F) {x : PlanZ} {c : Int} {L : List Int} (hz : codeZ x c F = some L) {i : Nat} (hi : ∀ r ∈ F.rels, r.at_ ≠ i) : L[i]? = F.code[i]? :=
  relsZ_stay hz fun r hr e => hi r hr (by have := (h.1 r hr).1; omega)
theorem codeZ_len {F : PFuncM} {x : PlanZ} {c : Int} {L : List Int} (hz : codeZ x c F = some L) : L.length = F.code.length := (relsZ_keeps hz).1
/-- What the word behind has: all but the Imm as it was. -/
theorem put_back {y imm : Int} (hr : rightB (gO y) (gA y) (gB y) (gC y) imm = true) :
    okG (putZ (gO y) (gA y) (gB y) (gC y) imm) = true ∧ gO (putZ (gO y) (gA y) (gB y) (gC y) imm) = gO y ∧ gA (putZ (gO y) (gA y) (gB y) (gC y) imm) = gA y ∧ gB (putZ (gO y) (gA y) (gB y) (gC y) imm) = gB y ∧ gC (putZ (gO y) (gA y) (gB y) (gC y) imm) = gC y ∧ gI (putZ (gO y) (gA y) (gB y) (gC y) imm) = imm := by
  obtain ⟨-, h1, h2, h3, h4, h5⟩ := put_fields _ _ _ _ _ hr
  exact ⟨put_ok _ _ _ _ _ hr, h1, h2, h3, h4, h5⟩
/-! ### Bytes -/
theorem datsZ_stay {x : PlanZ} {rs : List PRelM} {bs bs' : List Int} (h : datsZ x rs bs = some bs') {j : Nat} (hb : ∀ r ∈ rs, r.at_.toNat + 4 ≤ bs.length) (hj : ∀ r ∈ rs, j < r.at_.toNat ∨ r.at_.toNat + 4 ≤ j) : bs'[j]? = bs[j]? := by
  refine (foldO_all (P := fun a => a[j]? = bs[j]? ∧ a.length = bs.length) (datStep_none x) rs bs bs' (fun r hr a a' ha e => ?_) ⟨rfl, rfl⟩ h).1
  obtain ⟨-, rfl⟩ := datStep_some e
  refine ⟨?_, by rw [put4_len]; exact ha.2⟩
  rw [put4_get _ _ _ _ (by rw [ha.2]; exact hb r hr)]
  have := hj r hr
  rw [if_neg (by omega), if_neg (by omega), if_neg (by omega), if_neg (by omega)]
  exact ha.1
theorem fill_len {D : PDataM} (h : (D.bytes.length : Int) ≤ D.size) : (fillZ D).length = D.size.toNat := by
  unfold fillZ
  rw [List.length_append, List.length_replicate]
  omega
/-- Bytes that no relocation has. -/
theorem dataZ_stay {nd : Nat} {D : PDataM} (h : DtOk nd D) (hs : (D.bytes.length : Int) ≤ D.size) {x : PlanZ} {L : List Int} (hz : dataZ x D = some L) {j : Nat} (hj : ∀ r ∈ D.rels, (j : Int) < r.at_ ∨ r.at_ + 4 ≤ j) : L[j]? = (fillZ D)[j]? :=
  datsZ_stay hz (fun r hr => by have h1 := h.1 r hr; have h2 := fill_len hs; have := h1.2.1; have := h1.2.2.1; omega) fun r hr => by have h1 := h.1 r hr; have := hj r hr; have := h1.2.1; omega
/-- The four bytes that a relocation has. -/
theorem dataZ_at {nd : Nat} {D : PDataM} (h : DtOk nd D) (hs : (D.bytes.length : Int) ≤ D.size) {x : PlanZ} {L : List Int} (hz : dataZ x D = some L) {k : Nat} {r : PRelM} (hr : D.rels[k]? = some r) :
    0 ≤ valZ x r ∧ ∀ j, L[r.at_.toNat + j]? = (put4 L r.at_.toNat (valZ x r))[r.at_.toNat + j]? ∨ 4 ≤ j := by
  have hR := h.1 r (List.mem_of_getElem? hr)
  have hl := fill_len hs
  have hlt : r.at_.toNat + 4 ≤ (fillZ D).length := by have := hR.2.1; have := hR.2.2.1; omega
  unfold dataZ at hz
  cases hk : datsZ x (D.rels.take k) (fillZ D) with
  | none => rw [datsZ_stop hk] at hz; cases hz
  | some bs =>
    have hnext := datsZ_next (x := x) (bs := fillZ D) hr
    rw [hk] at hnext
    cases hk1 : datsZ x (D.rels.take (k + 1)) (fillZ D) with
    | none => rw [datsZ_stop hk1] at hz; cases hz
    | some bs' =>
      rw [hk1] at hnext
      obtain ⟨h1, h2⟩ := datStep_some hnext.symm
      refine ⟨h1, fun j => ?_⟩
      by_cases h4 : 4 ≤ j
      · exact .inr h4
      · left
        have hz' := hz
        rw [datsZ_drop hk1] at hz
        have hb : bs.length = (fillZ D).length := (datsZ_keeps hk).1
        have hL : L.length = (fillZ D).length := (datsZ_keeps hz').1
        rw [datsZ_stay hz (j := r.at_.toNat + j) (fun s hs' => by
          have h5 := h.1 s (List.mem_of_mem_drop hs')
          have := h5.2.1; have := h5.2.2.1
          rw [h2, put4_len, hb]; omega) (fun s hs' => by
          have h5 := asc_drop h.2 (by omega) hr hs'
          have h6 := hR.2.1
          omega), h2, put4_get _ _ _ _ (by omega), put4_get _ _ _ _ (by omega)]
        rcases (by omega : j = 0 ∨ j = 1 ∨ j = 2 ∨ j = 3) with rfl | rfl | rfl | rfl
        · simp
        · simp
        · simp
        · simp
end Go.Proofs.YtombfnnpdamlgaaDoor
