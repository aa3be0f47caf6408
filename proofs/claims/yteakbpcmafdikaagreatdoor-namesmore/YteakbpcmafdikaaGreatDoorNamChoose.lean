/- What is chosen of right objects. No condition. -/
import Derived.Test.YteakbpcmafdikaaGreatDoorNmHolds
import Derived.Test.YteakbpcmafdikaaGreatDoorObjGr
namespace Go.Proofs.YteakbpcmafdikaaGreatDoor
open Go.ChangeShapes Go.WideShapes Go.ChangeAt Go.RowKit Go.Maps
set_option linter.unusedVariables false
set_option linter.unusedSimpArgs false
theorem own_mono11 {w : World} {base base' : Nat} {e : TypeId} {size : Nat} {v : Value} {n : Nat} {xs : List Value} (h : w.ownsRow base e size v n xs) (hb : base' ≤ base) : w.ownsRow base' e size v n xs :=
  ⟨h.1, h.2.imp id fun ⟨g, cap, cur, h1, h2, h3⟩ => ⟨g, cap, cur, h1, Nat.le_trans hb h2, h3⟩⟩
theorem results_cell {fn : Func} {p : Tmp} {T : TypeId} (h : fn.results = #[.cell p T]) (tmps : Array Value) (g : Nat) (hp : tmps.getD p undef = .pointer (some ⟨g, 0, none⟩)) (W : World) (cs : List Value) (hA : XAt W g cs) {d : TypeDesc}
    (hu : Tryz.prog.underlying T = some d) (hd : d.isRow = true) (hi : (Tryz.prog.info? T).map (·.size) = some cs.length) : (results fn tmps).run Tryz.prog W = .ok (.agg cs.toArray) W := by
  have hp' : tmps[p]?.getD undef = .pointer (some ⟨g, 0, none⟩) := by simpa using hp
  have e := run_loadVar_mid (P := Tryz.prog) W g 0 T cs d (fun j v hv => by rw [Nat.zero_add]; exact hA.1 j v hv) hu hd hi
  simp [results, h, hp', asAddr, e]
theorem results_cell_tmp {fn : Func} {p r : Tmp} {T : TypeId} (h : fn.results = #[.cell p T, .tmp r]) (tmps : Array Value) (g : Nat) (hp : tmps.getD p undef = .pointer (some ⟨g, 0, none⟩)) (W : World) (cs : List Value) (hA : XAt W g cs) {d : TypeDesc}
    (hu : Tryz.prog.underlying T = some d) (hd : d.isRow = true) (hi : (Tryz.prog.info? T).map (·.size) = some cs.length) (u : Value) (hr : tmps.getD r undef = u) : (results fn tmps).run Tryz.prog W = .ok (.tuple #[.agg cs.toArray, u]) W := by
  have hp' : tmps[p]?.getD undef = .pointer (some ⟨g, 0, none⟩) := by simpa using hp
  have hr' : tmps[r]?.getD undef = u := by simpa using hr
  have e := run_loadVar_mid (P := Tryz.prog) W g 0 T cs d (fun j v hv => by rw [Nat.zero_add]; exact hA.1 j v hv) hu hd hi
  simp [results, h, hp', hr', asAddr, e]
/-! ### Over lists -/
theorem uniq_items {l : List ObjM} (h : ∀ o ∈ l, rightO o) : Uniq (itemsL l) := by
  unfold Uniq itemsL
  rw [List.pairwise_flatten]
  refine ⟨fun xs hx => ?_, ?_⟩
  · obtain ⟨k, hk, rfl⟩ := List.getElem_of_mem hx
    rw [List.getElem_mapIdx]
    have hk' : k < l.length := by simpa using hk
    have e : (objI k l[k]).map (·.name) = namesL l[k] := by
      unfold objI namesL
      rw [List.map_append]
      congr 1 <;> (apply List.ext_getElem? ; intro i; simp [List.getElem?_mapIdx]; rfl)
    have hn := (h _ (List.getElem_mem hk')).2.2
    rw [← e] at hn
    have hp : (objI k l[k]).Pairwise fun x y => x.name ≠ y.name := List.pairwise_map.1 hn
    exact hp.imp fun hne hh => hne hh.2
  · rw [List.pairwise_iff_getElem]
    intro i j hi hj hij x hx y hy hxy
    rw [List.getElem_mapIdx] at hx hy
    have ho : ∀ k (o : ObjM) z, z ∈ objI k o → z.obj = k := fun k o z hz => by
      unfold objI at hz
      rcases List.mem_append.1 hz with hz | hz
      · obtain ⟨p, hp, rfl⟩ := List.getElem_of_mem hz
        rw [List.getElem_mapIdx]; rfl
      · obtain ⟨p, hp, rfl⟩ := List.getElem_of_mem hz
        rw [List.getElem_mapIdx]; rfl
    have := ho _ _ _ hx
    have := ho _ _ _ hy
    omega
/-- A function, and the number of its object. -/
def partF (l : List ObjM) (x : ItemM) : Nat × FuncM := (x.obj, funcOf l x)
/-- Data as they are chosen. -/
def dataC (l : List ObjM) (x : ItemM) : DataM := if x.bind = 4 then
  { dataOf l x with size := greatZ (sizeI l) (bindP 4 x.name) (sizeI l x) (itemsL l), align := greatZ (alignI l) (bindP 4 x.name) (alignI l x) (itemsL l) } else dataOf l x
def partD (l : List ObjM) (x : ItemM) : Nat × DataM := (x.obj, dataC l x)
def CF (l : List ObjM) (xs : List ItemM) : List (Nat × FuncM) := (xs.filter (choseP (itemsL l) false)).map (partF l)
def CD (l : List ObjM) (xs : List ItemM) : List (Nat × DataM) := (xs.filter (choseP (itemsL l) true)).map (partD l)
theorem cf_yes {l : List ObjM} {xs : List ItemM} {x : ItemM} (h : choseP (itemsL l) false x = true) : CF l (xs ++ [x]) = CF l xs ++ [partF l x] := by
  unfold CF; rw [List.filter_append, List.map_append]; simp [h]
theorem cf_no {l : List ObjM} {xs : List ItemM} {x : ItemM} (h : choseP (itemsL l) false x = false) : CF l (xs ++ [x]) = CF l xs := by
  unfold CF; rw [List.filter_append, List.map_append]; simp [h]
theorem cd_yes {l : List ObjM} {xs : List ItemM} {x : ItemM} (h : choseP (itemsL l) true x = true) : CD l (xs ++ [x]) = CD l xs ++ [partD l x] := by
  unfold CD; rw [List.filter_append, List.map_append]; simp [h]
theorem cd_no {l : List ObjM} {xs : List ItemM} {x : ItemM} (h : choseP (itemsL l) true x = false) : CD l (xs ++ [x]) = CD l xs := by
  unfold CD; rw [List.filter_append, List.map_append]; simp [h]
theorem chose_kind {all : List ItemM} {d : Bool} {x : ItemM} (h : x.data ≠ d) : choseP all d x = false := by
  unfold choseP; exact decide_eq_false fun e => h e.2
/-- A function is chosen: by what is held. -/
theorem chose_func {l : List ObjM} {H : Held} (hr : ∀ o ∈ l, rightO o) (hh : heldOk (sizeI l) (alignI l) (itemsL l) H) {x : ItemM} (hx : x ∈ itemsL l) (hd : x.data = false) (hb : x.bind = 1 ∨ x.bind = 2 ∨ x.bind = 3) :
    (x.bind = 3 ∧ choseP (itemsL l) false x = true) ∨ (x.bind ≠ 3 ∧ ∃ h, H x.name = some h ∧ choseP (itemsL l) false x = decide (h.obj = x.obj)) := by
  by_cases h3 : x.bind = 3
  · exact .inl ⟨h3, by rw [chose_local (uniq_items hr) hx h3]; simp [hd]⟩
  · obtain ⟨h, h1, h2, -⟩ := chose_free (uniq_items hr) hx (by omega) hh false
    exact .inr ⟨h3, h, h1, by rw [h2]; simp [hd]⟩
theorem chose_data {l : List ObjM} {H : Held} (hr : ∀ o ∈ l, rightO o) (hh : heldOk (sizeI l) (alignI l) (itemsL l) H) {x : ItemM} (hx : x ∈ itemsL l) (hd : x.data = true) (hb : x.bind = 1 ∨ x.bind = 2 ∨ x.bind = 3 ∨ x.bind = 4) :
    (x.bind = 3 ∧ choseP (itemsL l) true x = true) ∨ (x.bind ≠ 3 ∧ ∃ h, H x.name = some h ∧ choseP (itemsL l) true x = decide (h.obj = x.obj) ∧ (h.obj = x.obj → x.bind = 4 → h.size = (dataC l x).size ∧ h.align = (dataC l x).align)) := by
  by_cases h3 : x.bind = 3
  · exact .inl ⟨h3, by rw [chose_local (uniq_items hr) hx h3]; simp [hd]⟩
  · obtain ⟨h, h1, h2, h4⟩ := chose_free (uniq_items hr) hx (by omega) hh true
    refine .inr ⟨h3, h, h1, by rw [h2]; simp [hd], fun e c => ?_⟩
    unfold dataC
    rw [if_pos c]
    exact h4 e c
/-! ### In memory -/
abbrev PF := Nat × FX
def pfC (x : PF) : List Value := .int .i64 (x.1 : Int) :: fxC x.2
def pfM (x : PF) : Nat × FuncM := (x.1, x.2.1)
abbrev PD := Nat × DX
def pdC (x : PD) : List Value := .int .i64 (x.1 : Int) :: dxC x.2
def pdM (x : PD) : Nat × DataM := (x.1, x.2.1)
/-- What is chosen so far: two rows of one's own, in blocks of their own. -/
structure Chn (A : Nat → Prop) (w : World) (base : Nat) (vf vd : Value) (LF : List PF) (LD : List PD) (W : World) : Prop where
  f : W.ownsRow base 96 5 vf LF.length (LF.flatMap pfC)
  d : W.ownsRow base 100 8 vd LD.length (LD.flatMap pdC)
  ef : ∀ x ∈ LF, FE A w x.2
  ed : ∀ x ∈ LD, DE A w x.2
  ne : ∀ q, vf.ownBlock = some q → vd.ownBlock ≠ some q
section
variable {A : Nat → Prop} {w W W' : World} {base : Nat} {vf vd : Value} {LF : List PF} {LD : List PD}
theorem Chn.nil (h : base ≤ W.heap.size) : Chn A w base (.slice none 0 0) (.slice none 0 0) [] [] W :=
  ⟨World.ownsRow_nil _ _ _ _, World.ownsRow_nil _ _ _ _, fun x h => (by cases h), fun x h => (by cases h), fun q h => (by cases h)⟩
theorem Chn.later (h : Chn A w base vf vd LF LD W) (hb : Below W.heap.size W W') : Chn A w base vf vd LF LD W' :=
  ⟨own_lo h.f fun k hk _ => hb.block k hk, own_lo h.d fun k hk _ => hb.block k hk, h.ef, h.ed, h.ne⟩
theorem Chn.stay (h : Chn A w base vf vd LF LD W) (hk : ∀ k, base ≤ k → k < W.heap.size → W'.heap[k]? = W.heap[k]?) : Chn A w base vf vd LF LD W' :=
  ⟨own_lo h.f fun k h1 h2 => hk k (own_oct h.f k h2).1 h1, own_lo h.d fun k h1 h2 => hk k (own_oct h.d k h2).1 h1, h.ef, h.ed, h.ne⟩
theorem Chn.func (h : Chn A w base vf vd LF LD W) {x : PF} (hx : FE A w x.2) {a : Option Addr} {c : Nat} (own' : W'.ownsRow base 96 5 (.slice a (LF.length + 1) c) (LF.length + 1) (LF.flatMap pfC ++ pfC x))
    (gr : W.grownBy W' vf.ownBlock) (wh : ∀ q, a = some q → vf.ownBlock = some q.block ∨ q.block = W.heap.size) : Chn A w base (.slice a (LF.length + 1) c) vd (LF ++ [x]) LD W' := by
  refine ⟨own_more pfC own', own_lo h.d fun k h1 h2 => gr.block k h1 fun e => h.ne k e.symm h2, fun y hy => ?_, h.ed, fun q hq hd => ?_⟩
  · rcases List.mem_append.mp hy with hy | hy
    · exact h.ef y hy
    · rw [List.mem_singleton] at hy; subst hy; exact hx
  · obtain ⟨p, e1, e2⟩ := own_some hq
    rcases wh p e1 with e | e
    · rw [e2] at e; exact h.ne q e hd
    · have := (own_oct h.d q hd).2; omega
theorem Chn.data (h : Chn A w base vf vd LF LD W) {x : PD} (hx : DE A w x.2) {a : Option Addr} {c : Nat} (own' : W'.ownsRow base 100 8 (.slice a (LD.length + 1) c) (LD.length + 1) (LD.flatMap pdC ++ pdC x))
    (gr : W.grownBy W' vd.ownBlock) (wh : ∀ q, a = some q → vd.ownBlock = some q.block ∨ q.block = W.heap.size) : Chn A w base vf (.slice a (LD.length + 1) c) LF (LD ++ [x]) W' := by
  refine ⟨own_lo h.f fun k h1 h2 => gr.block k h1 fun e => h.ne k h2 e.symm, own_more pdC own', h.ef, fun y hy => ?_, fun q hq hd => ?_⟩
  · rcases List.mem_append.mp hy with hy | hy
    · exact h.ed y hy
    · rw [List.mem_singleton] at hy; subst hy; exact hx
  · obtain ⟨p, e1, e2⟩ := own_some hd
    rcases wh p e1 with e | e
    · rw [e2] at e; exact h.ne q hq e
    · have := (own_oct h.f q hq).2; omega
end
theorem pf_one (A : Nat → Prop) (w : World) (x : PF) (h : FE A w x.2) : ∀ u ∈ pfC x, u.oneCell' = true := fun u hu => by
  simp only [pfC, fxC, List.mem_cons, List.not_mem_nil, or_false] at hu
  rcases hu with rfl | rfl | rfl | rfl | rfl
  · rfl
  · rfl
  · rfl
  · exact words_one h.1
  · exact lst_one h.2.1
theorem pd_one (A : Nat → Prop) (w : World) (x : PD) (h : DE A w x.2) : ∀ u ∈ pdC x, u.oneCell' = true := fun u hu => by
  simp only [pdC, dxC, List.mem_cons, List.not_mem_nil, or_false] at hu
  rcases hu with rfl | rfl | rfl | rfl | rfl | rfl | rfl | rfl
  · rfl
  · rfl
  · rfl
  · rfl
  · rfl
  · rfl
  · exact bytes_one h.1
  · exact lst_one h.2.1
theorem infoPF : (Tryz.prog.info? 96).map (fun i => (i.zero, i.size, i.bytes)) = some (some (.agg #[.int .i64 0, .string ⟨#[]⟩, .int .i64 0, .slice none 0 0, .slice none 0 0]), 5, 80) := by kernel_rfl
theorem infoPD : (Tryz.prog.info? 100).map (fun i => (i.zero, i.size, i.bytes)) = some (some (.agg #[.int .i64 0, .string ⟨#[]⟩, .int .i64 0, .int .i64 0, .bool false, .int .i64 0, .slice none 0 0, .slice none 0 0]), 8, 104) := by kernel_rfl
/-- A look-up under a guard that holds. -/
theorem wpList_held_if {w : World} {b n : Nat} {ops : Array Oper} {rest : List Oper} {o : Oper} {a : Act} {Q : Exit → Act → World → Prop} {H : Held} (hgd : Region.wanted o (yielded ops a.tmps) = true) (m x : Operand) (hop : o.op = Op.lookup 59 m x false) (h : HeldAt w b n H) (hm : a.eval m = .map (some b)) (s : ByteArray) (hx : a.eval x = .string s) (hs : s.size ≤ maxLen)
    (r : Option HoldM) (hr : H s = r) (v : Value) (hv : r.elim (.agg #[.int .i64 0, .int .i64 0, .int .i64 0, .int .i64 0]) holdV = v) (hK : wpList Tryz.prog ops Q rest (a.put o.dst v) w) : wpList Tryz.prog ops Q (o :: rest) a w := by
  unfold wpList
  rw [if_pos hgd]
  refine Or.inl ?_
  have e := MapAt.look (T := strT) (ev := holdV) h Tryz.underlying59 (zeroHold w) (x := s) hs
  rw [hr, hv] at e
  unfold Oper.wp
  have e' : (Instr.lookup 59 (.map (some b)) (.string s) false).run Tryz.prog w = .ok v w := e
  simp [execOp, hop, hm, hx, e', Result.andThen]
  exact hK
theorem field_hold (a0 a1 a2 a3 : Value) (W : World) : (Instr.field 90 (.agg #[a0, a1, a2, a3]) 0).run Tryz.prog W = .ok a0 W := by
  simp [Instr.field, go_sem, Tryz.underlying90, asAgg, Result.andThen]
end Go.Proofs.YteakbpcmafdikaaGreatDoor
