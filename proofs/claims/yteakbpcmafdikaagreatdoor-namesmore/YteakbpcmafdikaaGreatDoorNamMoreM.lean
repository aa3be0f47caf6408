/- One object more, whose names are its own alone. No condition. -/
import Derived.Test.YteakbpcmafdikaaGreatDoorNamGood
import Derived.Test.YteakbpcmafdikaaGreatDoorNmRes
namespace Go.Proofs.YteakbpcmafdikaaGreatDoor
set_option linter.unusedVariables false
set_option linter.unusedSimpArgs false
/-- Local ones of the object n. -/
def Locs (n : Nat) (T : List ItemM) : Prop := ∀ t ∈ T, t.obj = n ∧ t.bind = 3
theorem locs_find {n : Nat} {T : List ItemM} (h : Locs n T) {obj : Int} (ho : obj ≠ n) (s : ByteArray) : T.find? (locP obj s) = none := by
  rw [List.find?_eq_none]
  intro t ht q
  have := h t ht
  simp only [locP, decide_eq_true_eq] at q
  exact ho (by rw [← q.2.1, this.1])
theorem locs_bind {n : Nat} {T : List ItemM} (h : Locs n T) {b : Int} (hb : b ≠ 3) (s : ByteArray) : T.find? (bindP b s) = none := by
  rw [List.find?_eq_none]
  intro t ht q
  have := h t ht
  simp only [bindP, decide_eq_true_eq] at q
  exact hb (by rw [← q.1, this.2])
theorem mean_old {n : Nat} {all T : List ItemM} (h : Locs n T) {obj : Int} (ho : obj ≠ n) (s : ByteArray) : meanZ (all ++ T) obj s = meanZ all obj s := by
  unfold meanZ
  rw [List.find?_append, List.find?_append, List.find?_append, List.find?_append, locs_find h ho, locs_bind h (by decide), locs_bind h (by decide), locs_bind h (by decide)]
  simp only [Option.or_none]
theorem mean_mem {all : List ItemM} {obj : Int} {s : ByteArray} {x : ItemM} (h : meanZ all obj s = some x) : x ∈ all := by
  unfold meanZ at h
  cases h1 : all.find? (locP obj s) with
  | some y => rw [h1] at h; simp at h; subst h; exact List.mem_of_find?_eq_some h1
  | none =>
    rw [h1, Option.none_or] at h
    cases h2 : all.find? (bindP 1 s) with
    | some y => rw [h2] at h; simp at h; subst h; exact List.mem_of_find?_eq_some h2
    | none =>
      rw [h2, Option.none_or] at h
      cases h3 : all.find? (bindP 2 s) with
      | some y => rw [h3] at h; simp at h; subst h; exact List.mem_of_find?_eq_some h3
      | none => rw [h3, Option.none_or] at h; exact List.mem_of_find?_eq_some h
theorem chose_old {n : Nat} {all T : List ItemM} (h : Locs n T) {data : Bool} {y : ItemM} (hy : y.obj < n) : choseP (all ++ T) data y = choseP all data y := by
  unfold choseP
  rw [mean_old h (by split <;> omega)]
theorem chosen_app {n : Nat} {all T : List ItemM} (h : Locs n T) (ha : ∀ y ∈ all, y.obj < n) (data : Bool) : chosenZ (all ++ T) data = chosenZ all data ++ T.filter (choseP (all ++ T) data) := by
  unfold chosenZ
  rw [List.filter_append]
  congr 1
  exact List.filter_congr fun y hy => chose_old h (ha y hy)
theorem place_app {fs T : List ItemM} {x : ItemM} (hx : x ∉ T) : placeZ (fs ++ T) x = placeZ fs x := by
  unfold placeZ
  rw [List.findIdx?_append]
  have e : T.findIdx? (fun y => decide (y = x)) = none := by
    rw [List.findIdx?_eq_none_iff]
    intro y hy
    simp only [decide_eq_false_iff_not]
    rintro rfl
    exact hx hy
  rw [e]
  simp only [Option.map_none, Option.or_none]
theorem rel_old {n : Nat} {all T T1 T2 fs ds : List ItemM} (h : Locs n T) (ha : ∀ y ∈ all, y.obj < n) (h1 : ∀ t ∈ T1, t ∈ T) (h2 : ∀ t ∈ T2, t ∈ T) {obj : Nat} (ho : obj < n) (r : RelM) : relZ (all ++ T) (fs ++ T1) (ds ++ T2) obj r = relZ all fs ds obj r := by
  unfold relZ
  rw [mean_old h (by omega)]
  cases hm : meanZ all obj r.name with
  | none => rfl
  | some x =>
    have hx := ha x (mean_mem hm)
    have hn : x ∉ T := fun q => by have := (h x q).1; omega
    simp only [place_app (fs := fs) (fun q => hn (h1 x q)), place_app (fs := ds) (fun q => hn (h2 x q))]
theorem each_congr {α β : Type} {g g' : α → Except Int β} : ∀ {l : List α}, (∀ x ∈ l, g x = g' x) → eachE g l = eachE g' l
  | [], _ => rfl
  | x :: l, h => by
    simp only [eachE]
    rw [h x (by simp), each_congr (fun y hy => h y (by simp [hy]))]
theorem objAt_old {l : List ObjM} {m : ObjM} {x : ItemM} (hx : x.obj < l.length) : objAt (l ++ [m]) x = objAt l x := by
  unfold objAt
  rw [List.getD_eq_getElem?_getD, List.getElem?_append_left hx, ← List.getD_eq_getElem?_getD]
theorem pfunc_old {l : List ObjM} {m : ObjM} {all T T1 T2 fs ds : List ItemM} (h : Locs l.length T) (ha : ∀ y ∈ all, y.obj < l.length) (h1 : ∀ t ∈ T1, t ∈ T) (h2 : ∀ t ∈ T2, t ∈ T) {x : ItemM} (hx : x.obj < l.length) : pfuncZ (l ++ [m]) (all ++ T) (fs ++ T1) (ds ++ T2) x = pfuncZ l all fs ds x := by
  unfold pfuncZ relsZ funcOf
  rw [objAt_old hx, each_congr (fun r _ => rel_old h ha h1 h2 hx r)]
theorem great_old {l : List ObjM} {m : ObjM} {n : Nat} {all T : List ItemM} (h : Locs n T) (ha : ∀ y ∈ all, y.obj < l.length) (g : DataM → Int) (s : ByteArray) (z : Int) : greatZ (fun y => g (dataOf (l ++ [m]) y)) (bindP 4 s) z (all ++ T) = greatZ (fun y => g (dataOf l y)) (bindP 4 s) z all := by
  have e : T.filter (bindP 4 s) = [] := by
    rw [List.filter_eq_nil_iff]
    intro t ht q
    have := h t ht
    simp only [bindP, decide_eq_true_eq] at q
    omega
  have e1 : greatZ (fun y => g (dataOf (l ++ [m]) y)) (bindP 4 s) z (all ++ T) = greatZ (fun y => g (dataOf (l ++ [m]) y)) (bindP 4 s) z all := by unfold greatZ; rw [List.filter_append, e, List.append_nil]
  rw [e1]
  exact great_congr fun y hy _ => by unfold dataOf; rw [objAt_old (ha y hy)]
theorem pdata_old {l : List ObjM} {m : ObjM} {all T T1 T2 fs ds : List ItemM} (h : Locs l.length T) (ha : ∀ y ∈ all, y.obj < l.length) (h1 : ∀ t ∈ T1, t ∈ T) (h2 : ∀ t ∈ T2, t ∈ T) {x : ItemM} (hx : x.obj < l.length) : pdataZ (l ++ [m]) (all ++ T) (fs ++ T1) (ds ++ T2) x = pdataZ l all fs ds x := by
  have e : dataOf (l ++ [m]) x = dataOf l x := by unfold dataOf; rw [objAt_old hx]
  unfold pdataZ relsZ
  rw [e, each_congr (fun r _ => rel_old h ha h1 h2 hx r), great_old h ha DataM.align, great_old h ha DataM.size]
theorem items_snoc (l : List ObjM) (m : ObjM) : itemsL (l ++ [m]) = itemsL l ++ objI l.length m := by
  unfold itemsL
  rw [List.mapIdx_append]
  simp
theorem items_lt {l : List ObjM} : ∀ y ∈ itemsL l, y.obj < l.length := fun y hy => by
  obtain ⟨o, ho, -⟩ := item_of hy
  exact (List.getElem?_eq_some_iff.1 ho).1
def xT : ByteArray := ⟨#[120]⟩
/-- The object of local names. -/
def moreO : ObjM := ⟨[rF fT 3, rF mainT 3], [⟨xT, 3, 4, false, 4, [], []⟩], []⟩
def tF (n : Nat) : ItemM := ⟨n, 0, false, fT, 3⟩
def tM (n : Nat) : ItemM := ⟨n, 1, false, mainT, 3⟩
def tX (n : Nat) : ItemM := ⟨n, 0, true, xT, 3⟩
theorem more_items (n : Nat) : objI n moreO = [tF n, tM n, tX n] := rfl
theorem more_locs (n : Nat) : Locs n [tF n, tM n, tX n] := fun t ht => by
  simp only [List.mem_cons, List.not_mem_nil, or_false] at ht
  rcases ht with rfl | rfl | rfl <;> exact ⟨rfl, rfl⟩
theorem none_loc {n : Nat} {all : List ItemM} (ha : ∀ y ∈ all, y.obj < n) (s : ByteArray) : all.find? (locP n s) = none := by
  rw [List.find?_eq_none]
  intro t ht q
  have := ha t ht
  simp only [locP, decide_eq_true_eq] at q
  omega
theorem mean_new {n : Nat} {all : List ItemM} (ha : ∀ y ∈ all, y.obj < n) : meanZ (all ++ [tF n, tM n, tX n]) n fT = some (tF n) ∧ meanZ (all ++ [tF n, tM n, tX n]) n mainT = some (tM n) ∧ meanZ (all ++ [tF n, tM n, tX n]) n xT = some (tX n) := by
  have hfm : fT ≠ mainT := by decide
  have hfx : fT ≠ xT := by decide
  have hmx : mainT ≠ xT := by decide
  refine ⟨?_, ?_, ?_⟩ <;>
  · unfold meanZ
    rw [List.find?_append, none_loc ha, Option.none_or]
    simp [List.find?, locP, tF, tM, tX, hfm, hfx, hmx]
theorem more_chosen {n : Nat} {all : List ItemM} (ha : ∀ y ∈ all, y.obj < n) : [tF n, tM n, tX n].filter (choseP (all ++ [tF n, tM n, tX n]) false) = [tF n, tM n] ∧ [tF n, tM n, tX n].filter (choseP (all ++ [tF n, tM n, tX n]) true) = [tX n] := by
  obtain ⟨m1, m2, m3⟩ := mean_new ha
  have e : ∀ (d : Bool) (t : ItemM), t.bind = 3 → t.obj = n → meanZ (all ++ [tF n, tM n, tX n]) n t.name = some t → choseP (all ++ [tF n, tM n, tX n]) d t = decide (t.data = d) := fun d t h1 h2 h3 => by
    unfold choseP
    rw [if_pos h1, h2, h3]
    simp
  have f1 := fun d => e d (tF n) rfl rfl m1
  have f2 := fun d => e d (tM n) rfl rfl m2
  have f3 := fun d => e d (tX n) rfl rfl m3
  constructor <;> simp only [List.filter_cons, List.filter_nil, f1, f2, f3] <;> rfl
theorem more_e : objE moreO = 0 := objE_ok ⟨⟨by decide, fun x hx => by simp [moreO] at hx; rcases hx with rfl | rfl <;> exact rF_ok (by decide) (by decide)⟩, ⟨by decide, fun x hx => by simp [moreO] at hx; subst hx; exact ⟨by decide, ⟨by decide, by decide⟩, ⟨by decide, by decide⟩, ⟨by decide, by decide⟩, ⟨by decide, fun x hx => by cases hx⟩, ⟨by decide, fun r hr => by cases hr⟩⟩⟩, ⟨by decide, fun x hx => by simp [moreO] at hx⟩⟩
  (firstE_all fun x hx => by simp [moreO] at hx; rcases hx with rfl | rfl <;> exact rF_e (by unfold bindOk; decide)) (fun x hx => by simp [moreO] at hx; subst hx; exact ⟨⟨by decide, by decide⟩, by decide, ⟨by decide, by decide, by decide⟩, (fun h => by revert h; decide), fun i r hi hr => by cases hr⟩) ⟨by simp only [namesL, moreO, rF, List.map_cons, List.map_nil]; decide, fun x hx => by simp [moreO] at hx⟩
theorem first_snoc {α : Type} {g : α → Int} {m : α} (hm : g m = 0) : ∀ l : List α, firstE g (l ++ [m]) = firstE g l
  | [] => by simp [firstE, hm]
  | x :: l => by simp only [List.cons_append, firstE, first_snoc hm l]
theorem twice_app {n : Nat} {all T : List ItemM} (h : Locs n T) : twiceP (all ++ T) ↔ twiceP all := by
  constructor
  · rintro ⟨i, k, x, y, hik, hx, hy, b1, b2, e⟩
    have key : ∀ (i : Nat) (x : ItemM), (all ++ T)[i]? = some x → x.bind = 1 → all[i]? = some x := fun i x hx hb => by
      rcases Nat.lt_or_ge i all.length with hi | hi
      · rwa [List.getElem?_append_left hi] at hx
      · rw [List.getElem?_append_right hi] at hx
        have := (h x (List.mem_of_getElem? hx)).2
        omega
    exact ⟨i, k, x, y, hik, key i x hx b1, key k y hy b2, b1, b2, e⟩
  · rintro ⟨i, k, x, y, hik, hx, hy, b1, b2, e⟩
    have hi := (List.getElem?_eq_some_iff.1 hx).1
    have hk := (List.getElem?_eq_some_iff.1 hy).1
    exact ⟨i, k, x, y, hik, by rw [List.getElem?_append_left hi]; exact hx, by rw [List.getElem?_append_left hk]; exact hy, b1, b2, e⟩
theorem pfunc_new {l : List ObjM} {all fs ds : List ItemM} : ∃ a b, eachE (pfuncZ (l ++ [moreO]) all fs ds) [tF l.length, tM l.length] = .ok [a, b] := by
  have h0 : objAt (l ++ [moreO]) (tF l.length) = moreO := by unfold objAt tF; simp
  have h1 : objAt (l ++ [moreO]) (tM l.length) = moreO := by unfold objAt tM; simp
  have f0 : funcOf (l ++ [moreO]) (tF l.length) = rF fT 3 := by unfold funcOf; rw [h0]; rfl
  have f1 : funcOf (l ++ [moreO]) (tM l.length) = rF mainT 3 := by unfold funcOf; rw [h1]; rfl
  simp only [eachE, pfuncZ, relsZ, f0, f1]
  exact ⟨_, _, rfl⟩
theorem pdata_new {l : List ObjM} {all fs ds : List ItemM} : ∃ c, eachE (pdataZ (l ++ [moreO]) all fs ds) [tX l.length] = .ok [c] := by
  have h0 : objAt (l ++ [moreO]) (tX l.length) = moreO := by unfold objAt tX; simp
  have f0 : dataOf (l ++ [moreO]) (tX l.length) = ⟨xT, 3, 4, false, 4, [], []⟩ := by unfold dataOf; rw [h0]; rfl
  simp only [eachE, pdataZ, relsZ, f0]
  exact ⟨_, rfl⟩
theorem each_app {α β : Type} {g : α → Except Int β} {m : List α} {b : List β} (hm : eachE g m = .ok b) : ∀ l : List α, eachE g (l ++ m) = match eachE g l with | .error e => .error e | .ok a => .ok (a ++ b)
  | [] => by simp only [List.nil_append, eachE, hm]
  | x :: l => by
    simp only [List.cons_append, eachE]
    rw [each_app hm l]
    cases g x with
    | error e => rfl
    | ok y =>
      cases eachE g l with
      | error e => rfl
      | ok a => rfl
theorem each_err {α β : Type} {g : α → Except Int β} {e : Int} : ∀ {l : List α}, eachE g l = .error e → ∃ x ∈ l, g x = .error e
  | [], h => by simp [eachE] at h
  | x :: l, h => by
    simp only [eachE] at h
    cases hx : g x with
    | error e' =>
      rw [hx] at h
      have he : e' = e := by injection h
      exact ⟨x, by simp, by rw [hx, he]⟩
    | ok y =>
      rw [hx] at h
      dsimp only at h
      cases hl : eachE g l with
      | error e' =>
        rw [hl] at h
        have he : e' = e := by injection h
        obtain ⟨z, hz, hg⟩ := each_err (e := e') hl
        exact ⟨z, by simp [hz], by rw [hg, he]⟩
      | ok m => rw [hl] at h; cases h
theorem pfunc_err {l : List ObjM} {all fs ds xs : List ItemM} {e : Int} (h : eachE (pfuncZ l all fs ds) xs = .error e) : ¬ e = 0 := by
  obtain ⟨x, -, hx⟩ := each_err h
  unfold pfuncZ at hx
  cases hr : relsZ all fs ds x.obj (funcOf l x).rels with
  | error e' =>
    rw [hr] at hx
    have := rels_err hr
    have he : e' = e := by injection hx
    omega
  | ok r => rw [hr] at hx; cases hx
theorem pdata_err {l : List ObjM} {all fs ds xs : List ItemM} {e : Int} (h : eachE (pdataZ l all fs ds) xs = .error e) : ¬ e = 0 := by
  obtain ⟨x, -, hx⟩ := each_err h
  unfold pdataZ at hx
  cases hr : relsZ all fs ds x.obj (dataOf l x).rels with
  | error e' =>
    rw [hr] at hx
    have := rels_err hr
    have he : e' = e := by injection hx
    omega
  | ok r =>
    rw [hr] at hx
    dsimp only at hx
    split at hx <;> cases hx
/-- What an object of local names changes: nothing but that its parts come behind. -/
theorem res_more {l : List ObjM} (hl : l.length ≤ 14) : (resZ (l ++ [moreO])).1 = (resZ l).1 ∧ ((resZ l).1 = 0 → ∃ a b c, (resZ (l ++ [moreO])).2 = ⟨(resZ l).2.funcs ++ [a, b], (resZ l).2.datas ++ [c], (resZ l).2.entry⟩) := by
  have hi : itemsL (l ++ [moreO]) = itemsL l ++ [tF l.length, tM l.length, tX l.length] := by rw [items_snoc, more_items]
  have ha := items_lt (l := l)
  have hL := more_locs l.length
  obtain ⟨c1, c2⟩ := more_chosen ha
  have hF : chosenZ (itemsL (l ++ [moreO])) false = chosenZ (itemsL l) false ++ [tF l.length, tM l.length] := by rw [hi, chosen_app hL ha, c1]
  have hD : chosenZ (itemsL (l ++ [moreO])) true = chosenZ (itemsL l) true ++ [tX l.length] := by rw [hi, chosen_app hL ha, c2]
  have hm : meanZ (itemsL (l ++ [moreO])) (-1) mainT = meanZ (itemsL l) (-1) mainT := by rw [hi]; exact mean_old hL (by omega) _
  have s1 : ∀ t ∈ [tF l.length, tM l.length], t ∈ [tF l.length, tM l.length, tX l.length] := fun t ht => by simp at ht ⊢; rcases ht with h | h <;> simp [h]
  have s2 : ∀ t ∈ [tX l.length], t ∈ [tF l.length, tM l.length, tX l.length] := fun t ht => by simp at ht ⊢; simp [ht]
  obtain ⟨a, b, hab⟩ := pfunc_new (l := l) (all := itemsL (l ++ [moreO])) (fs := chosenZ (itemsL (l ++ [moreO])) false) (ds := chosenZ (itemsL (l ++ [moreO])) true)
  obtain ⟨c, hcc⟩ := pdata_new (l := l) (all := itemsL (l ++ [moreO])) (fs := chosenZ (itemsL (l ++ [moreO])) false) (ds := chosenZ (itemsL (l ++ [moreO])) true)
  have mem : ∀ (d : Bool) (y : ItemM), y ∈ chosenZ (itemsL l) d → y.obj < l.length := fun d y hy => ha y (List.mem_filter.mp hy).1
  have eF : eachE (pfuncZ (l ++ [moreO]) (itemsL (l ++ [moreO])) (chosenZ (itemsL (l ++ [moreO])) false) (chosenZ (itemsL (l ++ [moreO])) true)) (chosenZ (itemsL l) false) = eachE (pfuncZ l (itemsL l) (chosenZ (itemsL l) false) (chosenZ (itemsL l) true)) (chosenZ (itemsL l) false) :=
    each_congr fun y hy => by rw [hF, hD, hi]; exact pfunc_old hL ha s1 s2 (mem _ y hy)
  have eD : eachE (pdataZ (l ++ [moreO]) (itemsL (l ++ [moreO])) (chosenZ (itemsL (l ++ [moreO])) false) (chosenZ (itemsL (l ++ [moreO])) true)) (chosenZ (itemsL l) true) = eachE (pdataZ l (itemsL l) (chosenZ (itemsL l) false) (chosenZ (itemsL l) true)) (chosenZ (itemsL l) true) :=
    each_congr fun y hy => by rw [hF, hD, hi]; exact pdata_old hL ha s1 s2 (mem _ y hy)
  have aF := each_app hab (chosenZ (itemsL l) false)
  rw [← hF, eF] at aF
  have aD := each_app hcc (chosenZ (itemsL l) true)
  rw [← hD, eD] at aD
  have hlen : (l ++ [moreO]).length = l.length + 1 := by simp
  have hfe : firstE objE (l ++ [moreO]) = firstE objE l := first_snoc more_e l
  have htw : twiceP (itemsL (l ++ [moreO])) ↔ twiceP (itemsL l) := by rw [hi]; exact twice_app hL
  have hl1 : ¬ 16 < (l ++ [moreO]).length := by omega
  have hl2 : ¬ 16 < l.length := by omega
  unfold resZ
  simp only [if_neg hl1, if_neg hl2, hfe]
  by_cases h1 : firstE objE l ≠ 0
  · rw [if_pos h1, if_pos h1]; exact ⟨rfl, fun h => absurd h h1⟩
  · rw [if_neg h1, if_neg h1]
    by_cases h2 : twiceP (itemsL l)
    · rw [if_pos h2, if_pos (htw.2 h2)]; exact ⟨rfl, fun h => by simp at h⟩
    · rw [if_neg h2, if_neg (fun q => h2 (htw.1 q)), hm]
      cases hmm : meanZ (itemsL l) (-1) mainT with
      | none => exact ⟨rfl, fun h => by simp at h⟩
      | some m =>
        dsimp only
        by_cases h3 : m.data = true
        · rw [if_pos h3, if_pos h3]; exact ⟨rfl, fun h => by simp at h⟩
        · rw [if_neg h3, if_neg h3, aF, aD]
          have hml := ha m (mean_mem hmm)
          have hp : placeZ (chosenZ (itemsL (l ++ [moreO])) false) m = placeZ (chosenZ (itemsL l) false) m := by
            rw [hF]
            exact place_app (fun q => by have := (hL m (s1 m q)).1; omega)
          rw [hp]
          cases hef : eachE (pfuncZ l (itemsL l) (chosenZ (itemsL l) false) (chosenZ (itemsL l) true)) (chosenZ (itemsL l) false) with
          | error e => exact ⟨rfl, fun h => absurd h (pfunc_err hef)⟩
          | ok fs =>
            dsimp only
            cases hed : eachE (pdataZ l (itemsL l) (chosenZ (itemsL l) false) (chosenZ (itemsL l) true)) (chosenZ (itemsL l) true) with
            | error e => exact ⟨rfl, fun h => absurd h (pdata_err hed)⟩
            | ok ds => exact ⟨rfl, fun _ => ⟨a, b, c, rfl⟩⟩
end Go.Proofs.YteakbpcmafdikaaGreatDoor
