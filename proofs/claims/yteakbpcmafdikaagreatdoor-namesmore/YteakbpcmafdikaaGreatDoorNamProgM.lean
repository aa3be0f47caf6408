/- Programs in memory, that grow; what a program is made of, over lists. No condition. -/
import Derived.Test.YteakbpcmafdikaaGreatDoorNamPart
import Derived.Test.YteakbpcmafdikaaGreatDoorRegL
namespace Go.Proofs.YteakbpcmafdikaaGreatDoor
open Go.ChangeShapes Go.WideShapes Go.ChangeAt Go.RowKit Go.Maps
set_option linter.unusedVariables false
set_option linter.unusedSimpArgs false
/-! ### Rows of different elements lie apart -/
theorem own_type {w : World} {base : Nat} {e : TypeId} {sz : Nat} {v : Value} {n : Nat} {xs : List Value} (h : w.ownsRow base e sz v n xs) {q : Nat} (hq : v.ownBlock = some q) : ∃ cur, w.heap[q]? = some (.cells cur e) := by
  rcases h.2 with ⟨rfl, _⟩ | ⟨g, cap, cur, rfl, _, hg, _⟩
  · cases hq
  · cases hq
    exact ⟨cur, hg⟩
theorem own_diff {w : World} {b b' : Nat} {e e' : TypeId} {sz sz' : Nat} {v v' : Value} {n n' : Nat} {xs xs' : List Value} (h : w.ownsRow b e sz v n xs) (h' : w.ownsRow b' e' sz' v' n' xs') (he : e ≠ e') : ∀ q, v.ownBlock = some q → v'.ownBlock ≠ some q := fun q h1 h2 => by
  obtain ⟨c, hc⟩ := own_type h h1
  obtain ⟨c', hc'⟩ := own_type h' h2
  rw [hc] at hc'
  injection hc' with k
  injection k with k1 k2
  exact he k2
theorem own_beside {w w' : World} {b b' : Nat} {e e' : TypeId} {sz sz' : Nat} {v v' : Value} {n n' : Nat} {xs xs' : List Value} (h : w.ownsRow b e sz v n xs) (h' : w.ownsRow b' e' sz' v' n' xs') (he : e ≠ e') (gr : w.grownBy w' v'.ownBlock) : w'.ownsRow b e sz v n xs :=
  own_lo h fun k h1 h2 => gr.block k h1 fun c => own_diff h h' he k h2 c.symm
abbrev PFX := PFuncM × Value × Value
def pfxC (x : PFX) : List Value := [.string x.1.name, .bool x.1.keep, .bool x.1.leaf, x.2.1, x.2.2]
abbrev PDX := PDataM × Value × Value
def pdxC (x : PDX) : List Value := [.int .i64 x.1.align, .bool x.1.fixed, .int .i64 x.1.size, x.2.1, x.2.2]
theorem pfxC_len (x : PFX) : (pfxC x).length = 5 := rfl
theorem pdxC_len (x : PDX) : (pdxC x).length = 5 := rfl
def PFE (base : Nat) (W : World) (x : PFX) : Prop := W.ownsRow base 53 1 x.2.1 x.1.code.length (x.1.code.map fun c => .int .u32 c) ∧ Wrd x.1.code ∧ OwnP W base x.2.2 x.1.rels
def PDE (base : Nat) (W : World) (x : PDX) : Prop := W.ownsRow base 5 1 x.2.1 x.1.bytes.length (x.1.bytes.map fun c => .int .u8 c) ∧ Byt x.1.bytes ∧ OwnP W base x.2.2 x.1.rels
/-- A program's lists, of one's own. -/
structure Prg (base : Nat) (vf vd : Value) (LF : List PFX) (LD : List PDX) (W : World) : Prop where
  f : W.ownsRow base 36 5 vf LF.length (LF.flatMap pfxC)
  d : W.ownsRow base 41 5 vd LD.length (LD.flatMap pdxC)
  ef : ∀ x ∈ LF, PFE base W x
  ed : ∀ x ∈ LD, PDE base W x
section
variable {base : Nat} {vf vd : Value} {LF : List PFX} {LD : List PDX} {W W' : World}
theorem Prg.nil (base : Nat) (W : World) : Prg base (.slice none 0 0) (.slice none 0 0) [] [] W := ⟨World.ownsRow_nil _ _ _ _, World.ownsRow_nil _ _ _ _, fun x h => (by cases h), fun x h => (by cases h)⟩
theorem Prg.stay (h : Prg base vf vd LF LD W) (hk : ∀ k, base ≤ k → k < W.heap.size → W'.heap[k]? = W.heap[k]?) : Prg base vf vd LF LD W' := by
  have k : ∀ {e : TypeId} {sz : Nat} {v : Value} {n : Nat} {xs : List Value}, W.ownsRow base e sz v n xs → W'.ownsRow base e sz v n xs := fun ho => own_lo ho fun q h1 h2 => hk q (own_oct ho q h2).1 h1
  exact ⟨k h.f, k h.d, fun x hx => ⟨k (h.ef x hx).1, (h.ef x hx).2.1, k (h.ef x hx).2.2⟩, fun x hx => ⟨k (h.ed x hx).1, (h.ed x hx).2.1, k (h.ed x hx).2.2⟩⟩
theorem Prg.later (h : Prg base vf vd LF LD W) (hb : Below W.heap.size W W') : Prg base vf vd LF LD W' := h.stay fun k _ hk => hb.block k hk
theorem Prg.lower (h : Prg base vf vd LF LD W) {b : Nat} (hb : b ≤ base) : Prg b vf vd LF LD W :=
  ⟨own_mono11 h.f hb, own_mono11 h.d hb, fun x hx => ⟨own_mono11 (h.ef x hx).1 hb, (h.ef x hx).2.1, own_mono11 (h.ef x hx).2.2 hb⟩, fun x hx => ⟨own_mono11 (h.ed x hx).1 hb, (h.ed x hx).2.1, own_mono11 (h.ed x hx).2.2 hb⟩⟩
theorem Prg.func (h : Prg base vf vd LF LD W) {x : PFX} (hx : PFE base W x) {a : Option Addr} {c : Nat} (own' : W'.ownsRow base 36 5 (.slice a (LF.length + 1) c) (LF.length + 1) (LF.flatMap pfxC ++ pfxC x)) (gr : W.grownBy W' vf.ownBlock) :
    Prg base (.slice a (LF.length + 1) c) vd (LF ++ [x]) LD W' := by
  refine ⟨own_more pfxC own', own_beside h.d h.f (by decide) gr, fun y hy => ?_, fun y hy => ⟨own_beside (h.ed y hy).1 h.f (by decide) gr, (h.ed y hy).2.1, own_beside (h.ed y hy).2.2 h.f (by decide) gr⟩⟩
  have hy' : PFE base W y := by
    rcases List.mem_append.mp hy with hy | hy
    · exact h.ef y hy
    · rw [List.mem_singleton] at hy; subst hy; exact hx
  exact ⟨own_beside hy'.1 h.f (by decide) gr, hy'.2.1, own_beside hy'.2.2 h.f (by decide) gr⟩
theorem Prg.data (h : Prg base vf vd LF LD W) {x : PDX} (hx : PDE base W x) {a : Option Addr} {c : Nat} (own' : W'.ownsRow base 41 5 (.slice a (LD.length + 1) c) (LD.length + 1) (LD.flatMap pdxC ++ pdxC x)) (gr : W.grownBy W' vd.ownBlock) :
    Prg base vf (.slice a (LD.length + 1) c) LF (LD ++ [x]) W' := by
  refine ⟨own_beside h.f h.d (by decide) gr, own_more pdxC own', fun y hy => ⟨own_beside (h.ef y hy).1 h.d (by decide) gr, (h.ef y hy).2.1, own_beside (h.ef y hy).2.2 h.d (by decide) gr⟩, fun y hy => ?_⟩
  have hy' : PDE base W y := by
    rcases List.mem_append.mp hy with hy | hy
    · exact h.ed y hy
    · rw [List.mem_singleton] at hy; subst hy; exact hx
  exact ⟨own_beside hy'.1 h.d (by decide) gr, hy'.2.1, own_beside hy'.2.2 h.d (by decide) gr⟩
end
theorem own_one {w : World} {base : Nat} {e : TypeId} {sz : Nat} {v : Value} {n : Nat} {xs : List Value} (h : w.ownsRow base e sz v n xs) : v.oneCell' = true := by obtain ⟨a, c, rfl⟩ := own_form h; rfl
theorem pfx_one {base : Nat} {W : World} {x : PFX} (h : PFE base W x) : ∀ u ∈ pfxC x, u.oneCell' = true := fun u hu => by
  simp only [pfxC, List.mem_cons, List.not_mem_nil, or_false] at hu
  rcases hu with rfl | rfl | rfl | rfl | rfl
  · rfl
  · rfl
  · rfl
  · exact own_one h.1
  · exact own_one h.2.2
theorem pdx_one {base : Nat} {W : World} {x : PDX} (h : PDE base W x) : ∀ u ∈ pdxC x, u.oneCell' = true := fun u hu => by
  simp only [pdxC, List.mem_cons, List.not_mem_nil, or_false] at hu
  rcases hu with rfl | rfl | rfl | rfl | rfl
  · rfl
  · rfl
  · rfl
  · exact own_one h.1
  · exact own_one h.2.2
theorem infoPFunc : (Tryz.prog.info? 36).map (fun i => (i.zero, i.size, i.bytes)) = some (some (.agg #[.string ⟨#[]⟩, .bool false, .bool false, .slice none 0 0, .slice none 0 0]), 5, 72) := by kernel_rfl
theorem infoPData : (Tryz.prog.info? 41).map (fun i => (i.zero, i.size, i.bytes)) = some (some (.agg #[.int .i64 0, .bool false, .int .i64 0, .slice none 0 0, .slice none 0 0]), 5, 72) := by kernel_rfl
/-! ### Over lists -/
theorem item_of {l : List ObjM} {y : ItemM} (h : y ∈ itemsL l) : ∃ o, l[y.obj]? = some o ∧ (y.data = false → ∃ f, o.funcs[y.at_]? = some f ∧ f.name = y.name ∧ f.bind = y.bind ∧ funcOf l y = f) ∧ (y.data = true → ∃ d, o.datas[y.at_]? = some d ∧ d.name = y.name ∧ d.bind = y.bind ∧ dataOf l y = d) := by
  unfold itemsL at h
  rw [List.mem_flatten] at h
  obtain ⟨xs, hx, hy⟩ := h
  obtain ⟨k, hk, rfl⟩ := List.getElem_of_mem hx
  rw [List.getElem_mapIdx] at hy
  have hk' : k < l.length := by simpa using hk
  have hl : l[k]? = some l[k] := List.getElem?_eq_getElem hk'
  unfold objI at hy
  rcases List.mem_append.1 hy with hy | hy
  · obtain ⟨p, hp, rfl⟩ := List.getElem_of_mem hy
    rw [List.getElem_mapIdx]
    have hp' : p < l[k].funcs.length := by simpa using hp
    have hf : l[k].funcs[p]? = some l[k].funcs[p] := List.getElem?_eq_getElem hp'
    exact ⟨l[k], hl, fun _ => ⟨_, hf, rfl, rfl, func_at hl hf _ _⟩, fun e => by cases e⟩
  · obtain ⟨p, hp, rfl⟩ := List.getElem_of_mem hy
    rw [List.getElem_mapIdx]
    have hp' : p < l[k].datas.length := by simpa using hp
    have hd : l[k].datas[p]? = some l[k].datas[p] := List.getElem?_eq_getElem hp'
    exact ⟨l[k], hl, (fun e => by cases e), fun _ => ⟨_, hd, rfl, rfl, data_at hl hd _ _⟩⟩
theorem great_congr {g g' : ItemM → Int} {p : ItemM → Bool} {z : Int} {all : List ItemM} (h : ∀ y ∈ all, p y = true → g y = g' y) : greatZ g p z all = greatZ g' p z all := by
  unfold greatZ
  have h' : ∀ y ∈ all.filter p, g y = g' y := fun y hy => h y (List.mem_filter.1 hy).1 (List.mem_filter.1 hy).2
  generalize all.filter p = ys at h'
  induction ys generalizing z with
  | nil => rfl
  | cons y ys ih =>
    simp only [List.foldl_cons]
    rw [h' y (List.mem_cons_self ..)]
    exact ih fun q hq => h' q (List.mem_cons_of_mem _ hq)
/-- Data as the program has them. -/
theorem pdata_eq {l : List ObjM} (hr : ∀ o ∈ l, rightO o) {x : ItemM} (hx : x ∈ itemsL l) (hd : x.data = true) (fs ds : List ItemM) :
    pdataZ l (itemsL l) fs ds x = match relsZ (itemsL l) fs ds x.obj (dataC l x).rels with
      | .error e => .error e
      | .ok r => .ok ⟨(dataC l x).align, (dataC l x).fixed, (dataC l x).size, (dataC l x).bytes, r⟩ := by
  obtain ⟨o, ho, -, hD⟩ := item_of hx
  obtain ⟨d, hd1, hn, hb, hof⟩ := hD hd
  have k4 : ∀ y ∈ itemsL l, bindP 4 x.name y = true → y.data = true := fun y hy hp => by
    obtain ⟨o', ho', hF, -⟩ := item_of hy
    cases hyd : y.data with
    | true => rfl
    | false =>
      obtain ⟨f, hf, -, hfb, -⟩ := hF hyd
      have h1 := (hr o' (List.mem_of_getElem? ho')).1 f (List.mem_of_getElem? hf)
      have h2 := (bindP_iff hp).1
      omega
  have hc : (dataC l x).rels = (dataOf l x).rels ∧ (dataC l x).fixed = (dataOf l x).fixed ∧ (dataC l x).bytes = (dataOf l x).bytes := by unfold dataC; split <;> exact ⟨rfl, rfl, rfl⟩
  unfold pdataZ
  rw [hc.1, hc.2.1, hc.2.2]
  have hbx : (dataOf l x).bind = x.bind := by rw [hof, hb]
  have hnx : (dataOf l x).name = x.name := by rw [hof, hn]
  cases relsZ (itemsL l) fs ds x.obj (dataOf l x).rels with
  | error e => rfl
  | ok r =>
    dsimp only
    rw [hbx, hnx]
    by_cases c : x.bind = 4
    · rw [if_pos c]
      unfold dataC
      rw [if_pos c]
      have e1 : sizeI l x = (dataOf l x).size := if_pos hd
      have e2 : alignI l x = (dataOf l x).align := if_pos hd
      dsimp only
      rw [e1, e2, great_congr (g := sizeI l) (g' := fun y => (dataOf l y).size) fun y hy hp => if_pos (k4 y hy hp), great_congr (g := alignI l) (g' := fun y => (dataOf l y).align) fun y hy hp => if_pos (k4 y hy hp)]
    · rw [if_neg c]
      unfold dataC
      rw [if_neg c]
theorem dataC_keeps {l : List ObjM} {x : ItemM} (hx : x ∈ itemsL l) (hd : x.data = true) : (dataC l x).name = x.name ∧ (dataC l x).bind = x.bind := by
  obtain ⟨o, ho, -, hD⟩ := item_of hx
  obtain ⟨d, hd1, hn, hb, hof⟩ := hD hd
  have : (dataC l x).name = (dataOf l x).name ∧ (dataC l x).bind = (dataOf l x).bind := by unfold dataC; split <;> exact ⟨rfl, rfl⟩
  rw [this.1, this.2, hof]
  exact ⟨hn, hb⟩
/-- The program that begins at E. -/
def progW (l : List ObjM) (E : Int) : Int × ProgM := match eachE (pfuncZ l (itemsL l) (chosenZ (itemsL l) false) (chosenZ (itemsL l) true)) (chosenZ (itemsL l) false) with
  | .error e => (e, noProg)
  | .ok fs => match eachE (pdataZ l (itemsL l) (chosenZ (itemsL l) false) (chosenZ (itemsL l) true)) (chosenZ (itemsL l) true) with
    | .error e => (e, noProg)
    | .ok ds => (0, ⟨fs, ds, E⟩)
/-- The program of right objects whose names are met once. -/
def progZ (l : List ObjM) : Int × ProgM := match meanZ (itemsL l) (-1) mainT with
  | none => (6, noProg)
  | some m => if m.data = true then (9, noProg) else progW l (placeZ (chosenZ (itemsL l) false) m)
theorem progW_f {l : List ObjM} {E x : Int} (h : eachE (pfuncZ l (itemsL l) (chosenZ (itemsL l) false) (chosenZ (itemsL l) true)) (chosenZ (itemsL l) false) = .error x) : progW l E = (x, noProg) := by unfold progW; rw [h]
theorem progW_d {l : List ObjM} {E x : Int} {fs : List PFuncM} (h : eachE (pfuncZ l (itemsL l) (chosenZ (itemsL l) false) (chosenZ (itemsL l) true)) (chosenZ (itemsL l) false) = .ok fs)
    (h' : eachE (pdataZ l (itemsL l) (chosenZ (itemsL l) false) (chosenZ (itemsL l) true)) (chosenZ (itemsL l) true) = .error x) : progW l E = (x, noProg) := by unfold progW; rw [h]; dsimp only; rw [h']
theorem progW_ok {l : List ObjM} {E : Int} {fs : List PFuncM} {ds : List PDataM} (h : eachE (pfuncZ l (itemsL l) (chosenZ (itemsL l) false) (chosenZ (itemsL l) true)) (chosenZ (itemsL l) false) = .ok fs)
    (h' : eachE (pdataZ l (itemsL l) (chosenZ (itemsL l) false) (chosenZ (itemsL l) true)) (chosenZ (itemsL l) true) = .ok ds) : progW l E = (0, ⟨fs, ds, E⟩) := by unfold progW; rw [h]; dsimp only; rw [h']
end Go.Proofs.YteakbpcmafdikaaGreatDoor
