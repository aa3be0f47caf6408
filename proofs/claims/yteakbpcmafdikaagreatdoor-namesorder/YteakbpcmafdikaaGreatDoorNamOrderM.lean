/- One object alone: its functions and data, all of them, in order. Over lists. -/
import Derived.Test.YteakbpcmafdikaaGreatDoorNamGood
namespace Go.Proofs.YteakbpcmafdikaaGreatDoor
open Go.ChangeShapes Go.WideShapes Go.ChangeAt Go.RowKit
set_option linter.unusedVariables false
set_option linter.unusedSimpArgs false
theorem items_one (o : ObjM) : itemsL [o] = o.funcs.mapIdx (funcI 0) ++ o.datas.mapIdx (dataI 0) := by
  unfold itemsL objI
  simp
theorem items_zero {o : ObjM} {x : ItemM} (h : x ∈ itemsL [o]) : x.obj = 0 := by
  obtain ⟨b, hb, -⟩ := item_of h
  have := (List.getElem?_eq_some_iff.1 hb).1
  simp at this
  exact this
theorem free_binds {o : ObjM} {p : ProgM} (h : GoodZ [o] p) {x : ItemM} (hx : x ∈ itemsL [o]) : x.bind = 1 ∨ x.bind = 2 ∨ x.bind = 3 ∨ x.bind = 4 := by
  obtain ⟨b, hb, hF, hD⟩ := item_of hx
  have hr := (right_parts h.right).2.2 b (List.mem_of_getElem? hb)
  cases hd : x.data with
  | false =>
    obtain ⟨f, hf, -, e, -⟩ := hF hd
    have := hr.1 f (List.mem_of_getElem? hf)
    omega
  | true =>
    obtain ⟨f, hf, -, e, -⟩ := hD hd
    have := hr.2.1 f (List.mem_of_getElem? hf)
    omega
theorem chose_one {o : ObjM} {p : ProgM} (h : GoodZ [o] p) {x : ItemM} (hx : x ∈ itemsL [o]) (d : Bool) : choseP (itemsL [o]) d x = decide (x.data = d) := by
  have hu := good_uniq h
  by_cases hb : x.bind = 3
  · exact chose_local hu hx hb d
  · have hb' : x.bind = 1 ∨ x.bind = 2 ∨ x.bind = 4 := by have := free_binds h hx; omega
    have hn := free_some hx hb'
    obtain ⟨y, hy⟩ := Option.ne_none_iff_exists'.1 hn
    obtain ⟨-, e2, e3⟩ := free_bind hy
    obtain rfl := hu.eq e3 hx (by rw [items_zero e3, items_zero hx]) e2
    unfold choseP
    rw [if_neg hb, mean_free, hy]
    simp
theorem chosen_one {o : ObjM} {p : ProgM} (h : GoodZ [o] p) : chosenZ (itemsL [o]) false = o.funcs.mapIdx (funcI 0) ∧ chosenZ (itemsL [o]) true = o.datas.mapIdx (dataI 0) := by
  have e : ∀ d, chosenZ (itemsL [o]) d = (itemsL [o]).filter fun x => decide (x.data = d) := fun d => List.filter_congr fun x hx => chose_one h hx d
  have hF : ∀ x ∈ o.funcs.mapIdx (funcI 0), x.data = false := fun x hx => by
    obtain ⟨i, hi, rfl⟩ := List.mem_mapIdx.1 hx
    rfl
  have hD : ∀ x ∈ o.datas.mapIdx (dataI 0), x.data = true := fun x hx => by
    obtain ⟨i, hi, rfl⟩ := List.mem_mapIdx.1 hx
    rfl
  constructor
  · rw [e, items_one, List.filter_append, List.filter_eq_self.2 (fun x hx => by simp [hF x hx]), List.filter_eq_nil_iff.2 (fun x hx => by simp [hD x hx]), List.append_nil]
  · rw [e, items_one, List.filter_append, List.filter_eq_nil_iff.2 (fun x hx => by simp [hF x hx]), List.filter_eq_self.2 (fun x hx => by simp [hD x hx]), List.nil_append]
theorem one_lens {o : ObjM} {p : ProgM} (h : GoodZ [o] p) : p.funcs.length = o.funcs.length ∧ p.datas.length = o.datas.length := by
  have e := chosen_one h
  have h1 := (eachE_ok h.funcs).1
  have h2 := (eachE_ok h.datas).1
  rw [e.1] at h1
  rw [e.2] at h2
  simp at h1 h2
  exact ⟨h1, h2⟩
theorem one_func {o : ObjM} {p : ProgM} (h : GoodZ [o] p) {i : Nat} {f : PFuncM} (hi : p.funcs[i]? = some f) :
    ∃ f0, o.funcs[i]? = some f0 ∧ f.name = f0.name ∧ f.rels.length = f0.rels.length ∧ ∀ (k : Nat) (q : PRelM), f.rels[k]? = some q →
      ∃ (r : RelM) (j : Nat), f0.rels[k]? = some r ∧ q.add = r.add ∧ q.at_ = r.at_ ∧ q.kind = r.kind ∧ q.to = j ∧ (r.kind = 1 → ∃ g, o.funcs[j]? = some g ∧ g.name = r.name) ∧ (r.kind ≠ 1 → ∃ g, o.datas[j]? = some g ∧ g.name = r.name) := by
  obtain ⟨x, b, f0, hx, hb, hf0, hn, hname, -, -, hr⟩ := pfunc_good h hi
  have e := chosen_one h
  have h0 := items_zero (chosen_mem hx).1
  rw [h0] at hb
  simp at hb
  subst hb
  rw [e.1] at hx
  have hat : x.at_ = i := by
    rw [List.getElem?_mapIdx] at hx
    cases hf : o.funcs[i]? with
    | none => rw [hf] at hx; cases hx
    | some g => rw [hf] at hx; simp at hx; subst hx; rfl
  rw [hat] at hf0
  obtain ⟨l1, l2⟩ := eachE_ok hr
  refine ⟨f0, hf0, hname, l1, fun k q hk => ?_⟩
  obtain ⟨r, hr1, hr2⟩ := l2 k q hk
  obtain ⟨ha, hkd, hadd, y, j, -, hd, ht, hj, hyn⟩ := relZ_ok (good_uniq h) hr2
  refine ⟨r, j, hr1, hadd, ha, hkd, ht, fun e1 => ?_, fun e1 => ?_⟩
  · simp only [e1, not_true, decide_false] at hd
    rw [hd, e.1, List.getElem?_mapIdx] at hj
    cases hf : o.funcs[j]? with
    | none => rw [hf] at hj; cases hj
    | some g => rw [hf] at hj; simp at hj; subst hj; exact ⟨g, rfl, hyn⟩
  · simp only [e1, not_false_eq_true, decide_true] at hd
    rw [hd, e.2, List.getElem?_mapIdx] at hj
    cases hf : o.datas[j]? with
    | none => rw [hf] at hj; cases hj
    | some g => rw [hf] at hj; simp at hj; subst hj; exact ⟨g, rfl, hyn⟩
end Go.Proofs.YteakbpcmafdikaaGreatDoor
