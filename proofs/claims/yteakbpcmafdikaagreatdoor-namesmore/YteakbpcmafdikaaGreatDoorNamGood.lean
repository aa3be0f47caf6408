/- What Resolve's answer is made of, where there is one: places, kinds, names. Over lists. -/
import Derived.Test.YteakbpcmafdikaaGreatDoorNmRes
namespace Go.Proofs.YteakbpcmafdikaaGreatDoor
open Go.ChangeShapes Go.WideShapes Go.ChangeAt Go.RowKit
set_option linter.unusedVariables false
set_option linter.unusedSimpArgs false
theorem eachE_ok {α β : Type} {g : α → Except Int β} : ∀ {l : List α} {ys : List β}, eachE g l = .ok ys → ys.length = l.length ∧ ∀ (i : Nat) (y : β), ys[i]? = some y → ∃ x, l[i]? = some x ∧ g x = .ok y
  | [], ys, h => by
    simp only [eachE, Except.ok.injEq] at h
    subst h
    exact ⟨rfl, fun i y hi => by simp at hi⟩
  | x :: l, ys, h => by
    simp only [eachE] at h
    cases hx : g x with
    | error e => rw [hx] at h; cases h
    | ok p =>
      rw [hx] at h
      dsimp only at h
      cases hl : eachE g l with
      | error e => rw [hl] at h; cases h
      | ok q =>
        rw [hl] at h
        simp only [Except.ok.injEq] at h
        subst h
        obtain ⟨h1, h2⟩ := eachE_ok hl
        refine ⟨by simp [h1], fun i y hi => ?_⟩
        cases i with
        | zero => simp at hi; subst hi; exact ⟨x, rfl, hx⟩
        | succ i => simpa using h2 i y (by simpa using hi)
theorem eachE_bad {α β : Type} {g : α → Except Int β} {e : Int} : ∀ {l : List α}, eachE g l = .error e → ∃ x ∈ l, g x = .error e
  | [], h => by simp [eachE] at h
  | x :: l, h => by
    simp only [eachE] at h
    cases hx : g x with
    | error e' => rw [hx] at h; simp at h; subst h; exact ⟨x, by simp, hx⟩
    | ok p =>
      rw [hx] at h
      dsimp only at h
      cases hl : eachE g l with
      | error e' =>
        rw [hl] at h
        simp at h
        subst h
        obtain ⟨y, hy, hg⟩ := eachE_bad hl
        exact ⟨y, by simp [hy], hg⟩
      | ok q => rw [hl] at h; cases h
theorem relZ_bad {all fs ds : List ItemM} {obj : Nat} {r : RelM} {e : Int} (h : relZ all fs ds obj r = .error e) : e ≠ 0 := by
  unfold relZ at h
  cases hm : meanZ all obj r.name with
  | none => rw [hm] at h; simp at h; omega
  | some x =>
    rw [hm] at h
    dsimp only at h
    split at h
    · simp at h; omega
    · cases h
theorem relsZ_bad {all fs ds : List ItemM} {obj : Nat} {l : List RelM} {e : Int} (h : relsZ all fs ds obj l = .error e) : e ≠ 0 := by
  obtain ⟨x, -, hx⟩ := eachE_bad h
  exact relZ_bad hx
theorem pfuncZ_bad {l : List ObjM} {all fs ds : List ItemM} {x : ItemM} {e : Int} (h : pfuncZ l all fs ds x = .error e) : e ≠ 0 := by
  unfold pfuncZ at h
  cases hm : relsZ all fs ds x.obj (funcOf l x).rels with
  | error e' => rw [hm] at h; simp at h; subst h; exact relsZ_bad hm
  | ok r => rw [hm] at h; cases h
theorem pdataZ_bad {l : List ObjM} {all fs ds : List ItemM} {x : ItemM} {e : Int} (h : pdataZ l all fs ds x = .error e) : e ≠ 0 := by
  unfold pdataZ at h
  cases hm : relsZ all fs ds x.obj (dataOf l x).rels with
  | error e' => rw [hm] at h; simp at h; subst h; exact relsZ_bad hm
  | ok r => rw [hm] at h; dsimp only at h; split at h <;> cases h
/-- What the answer is made of. -/
structure GoodZ (l : List ObjM) (p : ProgM) : Prop where
  right : rightZ l = 0
  once : ¬ twiceP (itemsL l)
  entry : ∃ m, meanZ (itemsL l) (-1) mainT = some m ∧ m.data = false ∧ p.entry = placeZ (chosenZ (itemsL l) false) m
  funcs : eachE (pfuncZ l (itemsL l) (chosenZ (itemsL l) false) (chosenZ (itemsL l) true)) (chosenZ (itemsL l) false) = .ok p.funcs
  datas : eachE (pdataZ l (itemsL l) (chosenZ (itemsL l) false) (chosenZ (itemsL l) true)) (chosenZ (itemsL l) true) = .ok p.datas
theorem res_good {l : List ObjM} {p : ProgM} (h : resZ l = (0, p)) : GoodZ l p := by
  by_cases hr : rightZ l = 0
  rotate_left
  · rw [res_right hr] at h
    simp at h
    exact absurd h.1 hr
  by_cases ht : twiceP (itemsL l)
  · rw [res_twice hr ht] at h
    simp at h
  rw [res_prog hr ht] at h
  unfold progZ at h
  cases hm : meanZ (itemsL l) (-1) mainT with
  | none => rw [hm] at h; simp at h
  | some m =>
    rw [hm] at h
    dsimp only at h
    cases hd : m.data with
    | true => rw [hd] at h; simp at h
    | false =>
      rw [hd] at h
      simp only [Bool.false_eq_true, if_false] at h
      cases hf : eachE (pfuncZ l (itemsL l) (chosenZ (itemsL l) false) (chosenZ (itemsL l) true)) (chosenZ (itemsL l) false) with
      | error e =>
        rw [progW_f hf] at h
        obtain ⟨x, -, hx⟩ := eachE_bad hf
        simp at h
        exact absurd h.1 (pfuncZ_bad hx)
      | ok fs =>
        cases hdd : eachE (pdataZ l (itemsL l) (chosenZ (itemsL l) false) (chosenZ (itemsL l) true)) (chosenZ (itemsL l) true) with
        | error e =>
          rw [progW_d hf hdd] at h
          obtain ⟨x, -, hx⟩ := eachE_bad hdd
          simp at h
          exact absurd h.1 (pdataZ_bad hx)
        | ok ds =>
          rw [progW_ok hf hdd] at h
          simp at h
          subst h
          exact ⟨hr, ht, ⟨m, hm, hd, rfl⟩, hf, hdd⟩
theorem objE_good {o : ObjM} (h : objE o = 0) : (∀ f ∈ o.funcs, fnE f = 0) ∧ (∀ d ∈ o.datas, rdataOk d) ∧ (namesL o).Nodup := by
  by_cases h1 : objOk o
  · by_cases h2 : firstE fnE o.funcs = 0
    · by_cases h3 : ∀ d ∈ o.datas, rdataOk d
      · by_cases h4 : (namesL o).Nodup ∧ notesOk o
        · refine ⟨fun f hf => ?_, h3, h4.1⟩
          rcases firstE_bd (g := fnE) o.funcs with ⟨-, k⟩ | ⟨x, -, k, kn⟩
          · exact k f hf
          · rw [h2] at k; exact absurd k.symm kn
        · rw [objE_names h1 h2 h3 h4] at h; cases h
      · simp only [Classical.not_forall] at h3
        obtain ⟨d, hd, hn⟩ := h3
        rw [objE_data h1 h2 hd hn] at h; cases h
    · rw [objE_func h1 rfl h2] at h; exact absurd h h2
  · rw [objE_may h1] at h; cases h
theorem right_good {l : List ObjM} (h : rightZ l = 0) : ∀ o ∈ l, objE o = 0 := by
  rcases firstE_bd (g := objE) l with ⟨-, k⟩ | ⟨x, -, k, kn⟩
  · exact k
  · rw [(right_parts h).2.1] at k; exact absurd k.symm kn
/-- A relocation's places. -/
theorem relZ_ok {all : List ItemM} (hu : Uniq all) {obj : Nat} {r : RelM} {q : PRelM} (h : relZ all (chosenZ all false) (chosenZ all true) obj r = .ok q) :
    q.at_ = r.at_ ∧ q.kind = r.kind ∧ q.add = r.add ∧ ∃ (x : ItemM) (k : Nat), meanZ all obj r.name = some x ∧ x.data = decide (¬ r.kind = 1) ∧ q.to = k ∧ (chosenZ all x.data)[k]? = some x ∧ x.name = r.name := by
  unfold relZ at h
  cases hm : meanZ all obj r.name with
  | none => rw [hm] at h; cases h
  | some x =>
    rw [hm] at h
    dsimp only at h
    split at h
    · cases h
    · rename_i hd
      simp only [Except.ok.injEq] at h
      subst h
      obtain ⟨hc, hmem, hn, -⟩ := chose_mean hu hm
      obtain ⟨k, hk⟩ := mem_chosen hmem hc
      have hp := place_chosen hu hk
      refine ⟨rfl, rfl, rfl, x, k, rfl, ?_, ?_, hk, hn⟩
      · by_cases h1 : r.kind = 1
        · simp [h1] at hd ⊢; exact hd
        · simp [h1] at hd ⊢; exact hd
      · dsimp only
        cases hx : x.data with
        | false => rw [hx] at hp; simpa using hp
        | true => rw [hx] at hp; simpa using hp
/-- A function of the answer: whose it is. -/
theorem pfunc_good {l : List ObjM} {p : ProgM} (h : GoodZ l p) {i : Nat} {f : PFuncM} (hi : p.funcs[i]? = some f) :
    ∃ (x : ItemM) (o : ObjM) (f0 : FuncM), (chosenZ (itemsL l) false)[i]? = some x ∧ l[x.obj]? = some o ∧ o.funcs[x.at_]? = some f0 ∧ f0.name = x.name ∧ f.name = f0.name ∧ f.code = f0.code ∧ fnE f0 = 0 ∧ eachE (relZ (itemsL l) (chosenZ (itemsL l) false) (chosenZ (itemsL l) true) x.obj) f0.rels = .ok f.rels := by
  obtain ⟨x, hx, hg⟩ := (eachE_ok h.funcs).2 i f hi
  obtain ⟨hm, hd, -⟩ := chosen_mem hx
  obtain ⟨o, ho, hF, -⟩ := item_of hm
  obtain ⟨f0, hf0, hn, hb, he⟩ := hF hd
  unfold pfuncZ at hg
  rw [he] at hg
  cases hr : relsZ (itemsL l) (chosenZ (itemsL l) false) (chosenZ (itemsL l) true) x.obj f0.rels with
  | error e => rw [hr] at hg; cases hg
  | ok rs =>
    rw [hr] at hg
    simp only [Except.ok.injEq] at hg
    subst hg
    exact ⟨x, o, f0, hx, ho, hf0, hn, rfl, rfl, (objE_good (right_good h.right o (List.mem_of_getElem? ho))).1 f0 (List.mem_of_getElem? hf0), hr⟩
theorem pdata_good {l : List ObjM} {p : ProgM} (h : GoodZ l p) {i : Nat} {d : PDataM} (hi : p.datas[i]? = some d) :
    ∃ (x : ItemM) (o : ObjM) (d0 : DataM), (chosenZ (itemsL l) true)[i]? = some x ∧ l[x.obj]? = some o ∧ o.datas[x.at_]? = some d0 ∧ d0.name = x.name ∧ d.bytes = d0.bytes ∧ rdataOk d0 ∧ eachE (relZ (itemsL l) (chosenZ (itemsL l) false) (chosenZ (itemsL l) true) x.obj) d0.rels = .ok d.rels := by
  obtain ⟨x, hx, hg⟩ := (eachE_ok h.datas).2 i d hi
  obtain ⟨hm, hd, -⟩ := chosen_mem hx
  obtain ⟨o, ho, -, hD⟩ := item_of hm
  obtain ⟨d0, hd0, hn, hb, he⟩ := hD hd
  unfold pdataZ at hg
  rw [he] at hg
  cases hr : relsZ (itemsL l) (chosenZ (itemsL l) false) (chosenZ (itemsL l) true) x.obj d0.rels with
  | error e => rw [hr] at hg; cases hg
  | ok rs =>
    rw [hr] at hg
    dsimp only at hg
    have hb : d.bytes = d0.bytes ∧ d.rels = rs := by
      split at hg <;> (simp only [Except.ok.injEq] at hg; subst hg; exact ⟨rfl, rfl⟩)
    exact ⟨x, o, d0, hx, ho, hd0, hn, hb.1, (objE_good (right_good h.right o (List.mem_of_getElem? ho))).2.1 d0 (List.mem_of_getElem? hd0), hb.2 ▸ hr⟩
theorem good_uniq {l : List ObjM} {p : ProgM} (h : GoodZ l p) : Uniq (itemsL l) := uniq_items (right_parts h.right).2.2
theorem good_entry {l : List ObjM} {p : ProgM} (h : GoodZ l p) : ∃ (k : Nat) (f : PFuncM), p.entry = k ∧ p.funcs[k]? = some f ∧ f.name = mainT := by
  obtain ⟨m, hm, hd, he⟩ := h.entry
  obtain ⟨hc, hmem, hn, -⟩ := chose_mean (good_uniq h) hm
  obtain ⟨k, hk⟩ := mem_chosen hmem hc
  rw [hd] at hk
  have hl := (eachE_ok h.funcs).1
  have hkl := (List.getElem?_eq_some_iff.1 hk).1
  obtain ⟨f, hf⟩ : ∃ f, p.funcs[k]? = some f := ⟨_, List.getElem?_eq_getElem (by omega)⟩
  obtain ⟨x, o, f0, hx, -, -, h1, h2, -⟩ := pfunc_good h hf
  rw [hk] at hx
  cases hx
  exact ⟨k, f, he.trans (place_chosen (good_uniq h) hk), hf, by rw [h2, h1, hn]⟩
theorem ahead_low {c : List Int} {l : List RelM} (h : relsUpto c l l.length) : ∀ i, i ≤ l.length → -1 ≤ aheadZ l i
  | 0, _ => by simp [aheadZ]
  | i + 1, hi => by
    have h0 := ahead_low h i (by omega)
    obtain ⟨r, hr⟩ : ∃ r, l[i]? = some r := ⟨_, List.getElem?_eq_getElem (by omega)⟩
    have := (h i r (by omega) hr).1
    simp only [aheadZ, hr]
    omega
theorem good_frel {l : List ObjM} {p : ProgM} (h : GoodZ l p) {i k : Nat} {f : PFuncM} {q : PRelM} (hi : p.funcs[i]? = some f) (hk : f.rels[k]? = some q) :
    0 ≤ q.to ∧ (q.kind = 1 → q.to < p.funcs.length) ∧ (q.kind ≠ 1 → q.to < p.datas.length) ∧ 0 ≤ q.at_ ∧ q.at_ < f.code.length := by
  obtain ⟨x, o, f0, -, ho, hf0, -, -, hc, he, hr⟩ := pfunc_good h hi
  obtain ⟨r, h1, h2⟩ := (eachE_ok hr).2 k q hk
  obtain ⟨ha, hkd, -, y, j, -, hd, ht, hj, -⟩ := relZ_ok (good_uniq h) h2
  have hjl := (List.getElem?_eq_some_iff.1 hj).1
  have hF := (eachE_ok h.funcs).1
  have hD := (eachE_ok h.datas).1
  have hR := (fnE_right he).2.2.1.1
  have hkl := (List.getElem?_eq_some_iff.1 h1).1
  obtain ⟨g1, g2, -⟩ := hR k r hkl h1
  have g0 := ahead_low hR k (by omega)
  refine ⟨by omega, fun e => ?_, fun e => ?_, by omega, by rw [hc]; omega⟩
  · rw [hkd] at e
    simp only [e, not_true, decide_false] at hd
    rw [hd] at hjl
    omega
  · rw [hkd] at e
    simp only [e, not_false_eq_true, decide_true] at hd
    rw [hd] at hjl
    omega
theorem good_drel {l : List ObjM} {p : ProgM} (h : GoodZ l p) {i k : Nat} {d : PDataM} {q : PRelM} (hi : p.datas[i]? = some d) (hk : d.rels[k]? = some q) : 0 ≤ q.to ∧ q.to < p.datas.length ∧ q.kind = 4 := by
  obtain ⟨x, o, d0, -, ho, hd0, -, -, hok, hr⟩ := pdata_good h hi
  obtain ⟨r, h1, h2⟩ := (eachE_ok hr).2 k q hk
  obtain ⟨ha, hkd, -, y, j, -, hd, ht, hj, -⟩ := relZ_ok (good_uniq h) h2
  have hjl := (List.getElem?_eq_some_iff.1 hj).1
  have hD := (eachE_ok h.datas).1
  have hkl := (List.getElem?_eq_some_iff.1 h1).1
  have h4 := (hok.2.2.2.2 k r hkl h1).1
  have e : ¬ r.kind = 1 := by omega
  simp only [e, not_false_eq_true, decide_true] at hd
  rw [hd] at hjl
  exact ⟨by omega, by omega, by omega⟩
end Go.Proofs.YteakbpcmafdikaaGreatDoor
