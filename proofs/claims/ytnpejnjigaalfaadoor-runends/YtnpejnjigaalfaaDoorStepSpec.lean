/- What a step comes to, in plain words: a state's contents, and those behind the step. -/
import Derived.Test.YtnpejnjigaalfaaDoorStateFew
import Derived.Test.YtnpejnjigaalfaaDoorStoreAll
import Derived.Test.YtnpejnjigaalfaaDoorAlu
import Derived.Test.YtnpejnjigaalfaaDoorCodeGet
import Derived.Test.YtnpejnjigaalfaaDoorFlowKind
import Derived.Test.YtnpejnjigaalfaaDoorAppends
import Derived.Deep.MidRow
namespace Go.Proofs.YtnpejnjigaalfaaDoor
open Go.ChangeShapes Go.WideShapes Go.ChangeAt Go.RowKit
set_option linter.unusedVariables false
set_option linter.unusedSimpArgs false

/-- A state's contents. -/
structure St where
  at_ : Int
  r : Nat → Int
  bn : Nat
  bf : Nat → Int
  wt : Int
  mn : Nat
  mf : Nat → Int
  inn : Nat
  inf : Nat → Int
  on_ : Nat
  of_ : Nat → Int
  en : Bool
  cd : Int
  ft : Int


/-- The value holds the contents. -/
def IsSt (w : World) (v : Value) (s : St) : Prop :=
  ∃ ba bc ma mc ia ic oa oc, v = stateV s.at_ s.r ba s.bn bc s.wt ma s.mn mc ia s.inn ic oa s.on_ oc s.en s.cd s.ft ∧
    (Head ba s.bn bc ∧ RowK .i64 w ba s.bn s.bf) ∧ (Head ma s.mn mc ∧ Bytes w ma s.mn s.mf) ∧ (Head ia s.inn ic ∧ Bytes w ia s.inn s.inf) ∧ (Head oa s.on_ oc ∧ Bytes w oa s.on_ s.of_)
theorem IsSt.later {w w' : World} {v : Value} {s : St} (h : IsSt w v s) (hb : Below w.heap.size w w') : IsSt w' v s := by
  obtain ⟨ba, bc, ma, mc, ia, ic, oa, oc, e, ⟨b1, b2⟩, ⟨m1, m2⟩, ⟨i1, i2⟩, o1, o2⟩ := h
  exact ⟨ba, bc, ma, mc, ia, ic, oa, oc, e, ⟨b1, b2.later hb⟩, ⟨m1, m2.later hb⟩, ⟨i1, i2.later hb⟩, o1, o2.later hb⟩
/-- The numbers are in their ranges, and there are few. -/
def Small (s : St) : Prop :=
  (s.r 0 = 0 ∧ ∀ j, 0 ≤ s.r j ∧ s.r j < 4294967296) ∧ (0 ≤ s.at_ ∧ s.at_ ≤ 1073741824) ∧ (s.bn ≤ 4000 ∧ s.mn ≤ 2000 ∧ s.inn ≤ 1000 ∧ s.on_ ≤ 6000) ∧ (Lit.int .i64 s.wt).wf = true ∧ (0 ≤ s.cd ∧ s.cd < 4294967296) ∧ (Lit.int .i64 s.ft).wf = true
/-- Written to a register; the register 0 stays 0. -/
def setR (r : Nat → Int) (a : Int) (v : Int) : Nat → Int := fun j => if j = 0 then 0 else if (j : Int) = a then v else r j
/-- It ends with a fault. -/
def St.stop (s : St) (k : Int) : St := { s with en := true, ft := k }
/-- Where a load or save is. -/
def whereZ (s : St) (b i : Int) : Int := (s.r b.toNat + i) % 4294967296
/-- Behind an instruction. -/
def opZ (op a b c i : Int) (s : St) : St :=
  if op = 0 then { s with cd := s.r a.toNat, en := true, ft := 0 }
  else if op = 25 then s.stop 1
  else if op = 21 then (if s.bn = 0 then s.stop 5 else { s with at_ := s.bf (s.bn - 1), bn := s.bn - 1 })
  else if op = 11 ∨ op = 13 then
    (if okB s.mn (whereZ s b i) (op == 11) = true then { s with r := setR s.r a (loadZ s.mf (whereZ s b i) (op == 11)), at_ := s.at_ + 1 } else s.stop 3)
  else if op = 12 ∨ op = 14 then
    (if saveB s.mn (whereZ s b i) (op == 12) s.wt = true then { s with mf := savedF s.mf (whereZ s b i) (s.r a.toNat) (op == 12), at_ := s.at_ + 1 } else s.stop 4)
  else if op = 22 then
    (if s.inn = 0 then { s with r := setR s.r a 4294967295, at_ := s.at_ + 1 } else { s with r := setR s.r a (s.inf 0), inn := s.inn - 1, inf := fun k => s.inf (k + 1), at_ := s.at_ + 1 })
  else if op = 23 then
    (if s.on_ < 4096 then { s with on_ := s.on_ + 1, of_ := fun k => if k = s.on_ then s.r a.toNat % 256 else s.of_ k, at_ := s.at_ + 1 } else { s with at_ := s.at_ + 1 })
  else if op = 24 then { s with at_ := s.at_ + 1 }
  else if op = 19 then { s with at_ := s.at_ + 1 + i }
  else if op = 20 then { s with at_ := s.at_ + 1 + i, bn := s.bn + 1, bf := fun k => if k = s.bn then s.at_ + 1 else s.bf k }
  else if 15 ≤ op ∧ op ≤ 18 then { s with at_ := s.at_ + 1 + (if takenB op (s.r a.toNat) (s.r b.toNat) = true then i else 0) }
  else { s with r := setR s.r a (doZ op i (s.r b.toNat).toNat (s.r c.toNat).toNat), at_ := s.at_ + 1 }
/-- Behind a step, over n words f. -/
def stepZ (n : Nat) (f : Nat → Int) (s : St) : St :=
  if s.en = true then s
  else if (n : Int) ≤ s.at_ then s.stop 2
  else if okG (f s.at_.toNat) = true then opZ (gO (f s.at_.toNat)) (gA (f s.at_.toNat)) (gB (f s.at_.toNat)) (gC (f s.at_.toNat)) (gI (f s.at_.toNat)) s
  else s.stop 2
/-- At the beginning. -/
def newZ (en : Int) (dn : Nat) (df : Nat → Int) (wt : Int) (mo : Nat) (n : Nat) (f : Nat → Int) : St :=
  { at_ := en, r := fun _ => 0, bn := 0, bf := fun _ => 0, wt := wt, mn := dn + mo, mf := fun k => if k < dn then df k else 0, inn := n, inf := f, on_ := 0, of_ := fun _ => 0, en := false, cd := 0, ft := 0 }
/-- Are they alike? -/
def sameZ (s t : St) : Bool :=
  (s.at_ == t.at_) && regsB s.r t.r && eqB s.bn t.bn s.bf t.bf && (s.wt == t.wt && eqB s.mn t.mn s.mf t.mf) && eqB s.inn t.inn s.inf t.inf && eqB s.on_ t.on_ s.of_ t.of_ && (s.en == t.en) && (s.cd == t.cd) && (s.ft == t.ft)
theorem isSt_agg {w : World} {v : Value} {s : St} (h : IsSt w v s) : ∃ C, v = .agg C := by
  obtain ⟨ba, bc, ma, mc, ia, ic, oa, oc, e, _⟩ := h
  exact ⟨_, e⟩
/-- A state's cells: how many, and each is one. -/
theorem st_shape {w : World} {C : Array Value} {s : St} (h : IsSt w (.agg C) s) : C.size = 25 ∧ C.all (·.oneCell') = true := by
  obtain ⟨ba, bc, ma, mc, ia, ic, oa, oc, e, _⟩ := h
  simp only [Value.agg.injEq] at e
  rw [e]; exact ⟨rfl, by simp [Value.oneCell']⟩
/-- A state's cells, each; and its rows. -/
theorem st_cells {w : World} {C : Array Value} {s : St} (h : IsSt w (.agg C) s) : ∃ ba bc ma mc ia ic oa oc,
    C = #[.int .i64 s.at_, .int .u32 (s.r 0), .int .u32 (s.r 1), .int .u32 (s.r 2), .int .u32 (s.r 3), .int .u32 (s.r 4), .int .u32 (s.r 5), .int .u32 (s.r 6), .int .u32 (s.r 7), .int .u32 (s.r 8), .int .u32 (s.r 9), .int .u32 (s.r 10), .int .u32 (s.r 11), .int .u32 (s.r 12), .int .u32 (s.r 13), .int .u32 (s.r 14), .int .u32 (s.r 15), .slice ba s.bn bc, .int .i64 s.wt, .slice ma s.mn mc, .slice ia s.inn ic, .slice oa s.on_ oc, .bool s.en, .int .u32 s.cd, .int .i64 s.ft] ∧
    (Head ba s.bn bc ∧ RowK .i64 w ba s.bn s.bf) ∧ (Head ma s.mn mc ∧ Bytes w ma s.mn s.mf) ∧ (Head ia s.inn ic ∧ Bytes w ia s.inn s.inf) ∧ (Head oa s.on_ oc ∧ Bytes w oa s.on_ s.of_) := by
  obtain ⟨ba, bc, ma, mc, ia, ic, oa, oc, e, h⟩ := h
  simp only [Value.agg.injEq] at e
  exact ⟨ba, bc, ma, mc, ia, ic, oa, oc, e, h⟩
theorem state_info : (Tryd.prog.info? 37).map (·.size) = some 25 := by kernel_rfl
theorem st_info {w : World} {C : Array Value} {s : St} (h : IsSt w (.agg C) s) : (Tryd.prog.info? 37).map (·.size) = some C.size ∧ (Tryd.prog.info? 37).map (·.size) = some C.toList.length := by
  have e := (st_shape h).1
  rw [Array.length_toList, e]; exact ⟨state_info, state_info⟩
/-- A whole variable is loaded under a guard that holds. -/
theorem wpList_load_if {P : Program} {ops : Array Oper} {rest : List Oper} {op : Oper} {a : Act} {w : World} {Q : Exit → Act → World → Prop} (hgd : Region.wanted op (yielded ops a.tmps) = true) (ty : TypeId) (x : Operand) (ho : op.op = .load ty x)
    (b o : Nat) (hx : a.eval x = .pointer (some ⟨b, o, none⟩)) (cs : List Value) (d : TypeDesc) (hc : w.rangeAt b o cs)
    (hu : P.underlying ty = some d) (hd : d.isRow = true) (hi : (P.info? ty).map (·.size) = some cs.length)
    (h : wpList P ops Q rest (a.put op.dst (.agg cs.toArray)) w) : wpList P ops Q (op :: rest) a w := by
  unfold wpList
  rw [if_pos hgd]
  exact Or.inl (wp_load_mid ty x ho b o hx cs d hc hu hd hi h)
/-- A state's cells one by one, of whatever world that has them. -/
theorem at_cells {C : Array Value} {s : St} {ba : Option Addr} {bc : Nat} {ma : Option Addr} {mc : Nat} {ia : Option Addr} {ic : Nat} {oa : Option Addr} {oc : Nat} (e : C = #[.int .i64 s.at_, .int .u32 (s.r 0), .int .u32 (s.r 1), .int .u32 (s.r 2), .int .u32 (s.r 3), .int .u32 (s.r 4), .int .u32 (s.r 5), .int .u32 (s.r 6), .int .u32 (s.r 7), .int .u32 (s.r 8), .int .u32 (s.r 9), .int .u32 (s.r 10), .int .u32 (s.r 11), .int .u32 (s.r 12), .int .u32 (s.r 13), .int .u32 (s.r 14), .int .u32 (s.r 15), .slice ba s.bn bc, .int .i64 s.wt, .slice ma s.mn mc, .slice ia s.inn ic, .slice oa s.on_ oc, .bool s.en, .int .u32 s.cd, .int .i64 s.ft]) (g : Nat) (W : World) (h : At W g C) :
    W.cell? ⟨g, 0, none⟩ = some (.int .i64 s.at_) ∧ W.cell? ⟨g, 1, none⟩ = some (.int .u32 (s.r 0)) ∧ W.cell? ⟨g, 2, none⟩ = some (.int .u32 (s.r 1)) ∧ W.cell? ⟨g, 3, none⟩ = some (.int .u32 (s.r 2)) ∧ W.cell? ⟨g, 4, none⟩ = some (.int .u32 (s.r 3)) ∧ W.cell? ⟨g, 5, none⟩ = some (.int .u32 (s.r 4)) ∧ W.cell? ⟨g, 6, none⟩ = some (.int .u32 (s.r 5)) ∧ W.cell? ⟨g, 7, none⟩ = some (.int .u32 (s.r 6)) ∧ W.cell? ⟨g, 8, none⟩ = some (.int .u32 (s.r 7)) ∧ W.cell? ⟨g, 9, none⟩ = some (.int .u32 (s.r 8)) ∧ W.cell? ⟨g, 10, none⟩ = some (.int .u32 (s.r 9)) ∧ W.cell? ⟨g, 11, none⟩ = some (.int .u32 (s.r 10)) ∧ W.cell? ⟨g, 12, none⟩ = some (.int .u32 (s.r 11)) ∧ W.cell? ⟨g, 13, none⟩ = some (.int .u32 (s.r 12)) ∧ W.cell? ⟨g, 14, none⟩ = some (.int .u32 (s.r 13)) ∧ W.cell? ⟨g, 15, none⟩ = some (.int .u32 (s.r 14)) ∧ W.cell? ⟨g, 16, none⟩ = some (.int .u32 (s.r 15)) ∧ W.cell? ⟨g, 17, none⟩ = some (.slice ba s.bn bc) ∧ W.cell? ⟨g, 18, none⟩ = some (.int .i64 s.wt) ∧ W.cell? ⟨g, 19, none⟩ = some (.slice ma s.mn mc) ∧ W.cell? ⟨g, 20, none⟩ = some (.slice ia s.inn ic) ∧ W.cell? ⟨g, 21, none⟩ = some (.slice oa s.on_ oc) ∧ W.cell? ⟨g, 22, none⟩ = some (.bool s.en) ∧ W.cell? ⟨g, 23, none⟩ = some (.int .u32 s.cd) ∧ W.cell? ⟨g, 24, none⟩ = some (.int .i64 s.ft) := by
  subst e
  exact ⟨h 0 _ rfl, h 1 _ rfl, h 2 _ rfl, h 3 _ rfl, h 4 _ rfl, h 5 _ rfl, h 6 _ rfl, h 7 _ rfl, h 8 _ rfl, h 9 _ rfl, h 10 _ rfl, h 11 _ rfl, h 12 _ rfl, h 13 _ rfl, h 14 _ rfl, h 15 _ rfl, h 16 _ rfl, h 17 _ rfl, h 18 _ rfl, h 19 _ rfl, h 20 _ rfl, h 21 _ rfl, h 22 _ rfl, h 23 _ rfl, h 24 _ rfl⟩
/-- The run of a load of a whole state. -/
theorem run_loadSt {w0 : World} {C : Array Value} {s : St} (hI : IsSt w0 (.agg C) s) (g : Nat) (W : World) (h : At W g C) : (loadVar 37 ⟨g, 0, none⟩).run Tryd.prog W = .ok (.agg C) W := by
  have e := run_loadVar_mid (P := Tryd.prog) W g 0 37 C.toList _ (at_range h) Tryd.underlying37 rfl (st_info hI).2
  simpa using e
theorem fresh_there (w : World) (Z C : Array Value) (t : TypeId) (h : Z.size = C.size) : (w.alloc (.cells Z t)).there w.heap.size 0 C.size := by
  intro j hj
  rw [Nat.zero_add]
  obtain ⟨v, hv⟩ : ∃ v, Z[j]? = some v := ⟨Z[j], by simp⟩
  exact ⟨by rw [new_cell' w Z t j v hv]; rfl, by simp [go_sem]⟩
theorem below_setCells {B : Nat} {w0 : World} (b : Nat) : ∀ (vs : List Value) (o : Nat) (w : World), Below B w0 w → B ≤ b → Below B w0 (w.setCells b o vs)
  | [], o, w, h, hb => h
  | v :: vs, o, w, h, hb => below_setCells b vs (o + 1) _ (h.setCell (p := ⟨b, o, none⟩) hb v) hb
theorem frozen_setCells (b : Nat) : ∀ (vs : List Value) (o : Nat) (w : World) (p : Addr), (w.setCells b o vs).frozen? p = w.frozen? p
  | [], o, w, p => rfl
  | v :: vs, o, w, p => (frozen_setCells b vs (o + 1) _ p).trans (by simp)
theorem At.far {w : World} {k : Nat} {C : Array Value} (h : At w k C) {g : Nat} (hg : k ≠ g) (o : Nat) (v : Value) : At (w.setCell ⟨g, o, none⟩ v) k C := fun j u hu => by
  rw [World.cell?_setCell_other _ _ _ _ (fun q => hg (congrArg Addr.block q).symm)]; exact h j u hu
theorem At.set {w : World} {k : Nat} {C : Array Value} (h : At w k C) (o : Nat) (ho : o < C.size) (v : Value) : At (w.setCell ⟨k, o, none⟩ v) k (C.setIfInBounds o v) := by
  intro j u hu
  rw [Array.getElem?_setIfInBounds] at hu
  by_cases e : o = j
  · subst e
    rw [if_pos rfl, if_pos ho] at hu
    obtain rfl := Option.some.inj hu
    exact World.cell?_setCell_same _ _ _ (h o _ (Array.getElem?_eq_getElem ho))
  · rw [if_neg e] at hu
    rw [World.cell?_setCell_other _ _ _ _ (fun q => e (congrArg Addr.off q))]; exact h j u hu
theorem at_of_range {w : World} {k : Nat} {cs : Array Value} (h : w.rangeAt k 0 cs.toList) : At w k cs := fun j v hv => by
  have := h j v (by simpa using hv); rwa [Nat.zero_add] at this
/-- A function's result that is a state in a variable of its own. -/
theorem results_st {fn : Func} {p : Tmp} (h : fn.results = #[.cell p 37]) (tmps : Array Value) (g : Nat) (hp : tmps.getD p undef = .pointer (some ⟨g, 0, none⟩)) {w0 : World} {C : Array Value} {s : St} (hI : IsSt w0 (.agg C) s) (W : World) (hA : At W g C) :
    (results fn tmps).run Tryd.prog W = .ok (.agg C) W := by
  have hp' : tmps[p]?.getD undef = .pointer (some ⟨g, 0, none⟩) := by simpa using hp
  have e := run_loadSt hI g W hA
  simp [results, h, hp', asAddr, e]
/-- A whole value goes into a variable that was made right ahead of it. -/
theorem wpList_store_fresh {P : Program} {ops : Array Oper} {rest : List Oper} {op : Oper} {a : Act} {Q : Exit → Act → World → Prop} (hgd : op.guard = none) (ty : TypeId) (x y : Operand) (ho : op.op = .store ty x y)
    (w : World) (Z : Array Value) (t : TypeId) (C : Array Value) (hx : a.eval x = .pointer (some ⟨w.heap.size, 0, none⟩)) (hy : a.eval y = .agg C) (hz : Z.size = C.size)
    (hi : (P.info? ty).map (·.size) = some C.size) (h1 : C.all (·.oneCell') = true)
    (h : ∀ w', Below w.heap.size w w' → Hid (At w' w.heap.size C) → Hid (∀ q, w'.frozen? ⟨w.heap.size, q, none⟩ = false) → wpList P ops Q rest (a.put op.dst undef) w') : wpList P ops Q (op :: rest) a (w.alloc (.cells Z t)) := by
  have ht := fresh_there w Z C t hz
  refine wpList_store_mid hgd ty x y ho w.heap.size 0 C hx hy ht hi h1 (h _ ?_ ?_ ?_)
  · exact below_setCells _ _ _ _ ((Below.refl _ w).alloc (Nat.le_refl _) _) (Nat.le_refl _)
  · exact at_of_range (World.rangeAt_setCells_same _ _ _ _ (by simpa using ht))
  · intro q
    rw [frozen_setCells]
    simp [go_sem]
/-- A state's registers stand behind its first cell. -/
theorem regs_range {w w' : World} {k : Nat} {C : Array Value} {s : St} (h : At w k C) (hI : IsSt w' (.agg C) s) : w.rangeAt k 1 (regsV s.r).toList := by
  obtain ⟨ba, bc, ma, mc, ia, ic, oa, oc, eC, -⟩ := st_cells hI
  intro j v hv
  have hj : j < 16 := by have := (List.getElem?_eq_some_iff.1 hv).1; simpa [regsV] using this
  refine h (1 + j) v ?_
  rw [eC]
  rcases (by omega : j = 0 ∨ j = 1 ∨ j = 2 ∨ j = 3 ∨ j = 4 ∨ j = 5 ∨ j = 6 ∨ j = 7 ∨ j = 8 ∨ j = 9 ∨ j = 10 ∨ j = 11 ∨ j = 12 ∨ j = 13 ∨ j = 14 ∨ j = 15) with rfl | rfl | rfl | rfl | rfl | rfl | rfl | rfl | rfl | rfl | rfl | rfl | rfl | rfl | rfl | rfl <;> simpa [regsV] using hv
theorem range_later {w w' : World} {k o : Nat} {cs : List Value} (h : w.rangeAt k o cs) (hb : Below w.heap.size w w') : w'.rangeAt k o cs := fun j v hv => cell_later' (h j v hv) hb
theorem regs_info16 : (Tryd.prog.info? 32).map (·.size) = some 16 := by kernel_rfl
theorem rowB_of_list {w : World} {base g n cap : Nat} {L : List Value} {F : Nat → Int} (h : w.ownsRow base 5 1 (.slice (some ⟨g, 0, none⟩) n cap) n L) (hF : ∀ k, k < n → L[k]? = some (.int .u8 (F k))) : RowB w g n F :=
  ⟨fun k hk => by rw [h.cellAt k (by omega)]; exact hF k hk, fun q => h.frozenAt q, (h.lt g rfl).2⟩
theorem cells_one {n : Nat} {f : Nat → Int} {x : Int} : ∀ k, k < n + 1 → (cellsK .u8 n f ++ [.int .u8 x])[k]? = some (.int .u8 (if k < n then f k else x)) := by
  intro k hk
  by_cases h : k < n
  · rw [List.getElem?_append_left (by rw [cellsK_len]; exact h), cellsK_get _ _ _ _ h, if_pos h]
  · rw [List.getElem?_append_right (by rw [cellsK_len]; omega), cellsK_len, if_neg h, show k - n = 0 from by omega]; rfl
/-- No row of the state lies in block g. -/
def Avoids (C : Array Value) (g : Nat) : Prop := ∀ (j : Nat) (a : Addr) (n c : Nat), C[j]? = some (.slice (some a) n c) → n ≠ 0 → a.block ≠ g
theorem avoids_of {C : Array Value} {s : St} {ba ma ia oa : Option Addr} {bc mc ic oc g : Nat} (e : Value.agg C = stateV s.at_ s.r ba s.bn bc s.wt ma s.mn mc ia s.inn ic oa s.on_ oc s.en s.cd s.ft)
    (hb : ∀ a, ba = some a → s.bn ≠ 0 → a.block ≠ g) (hm : ∀ a, ma = some a → s.mn ≠ 0 → a.block ≠ g) (hi : ∀ a, ia = some a → s.inn ≠ 0 → a.block ≠ g) (ho : ∀ a, oa = some a → s.on_ ≠ 0 → a.block ≠ g) : Avoids C g := by
  simp only [Value.agg.injEq] at e
  subst e
  intro j a n c h hn
  rcases (by have := (Array.getElem?_eq_some_iff.1 h).1; simp at this; omega : j = 0 ∨ j = 1 ∨ j = 2 ∨ j = 3 ∨ j = 4 ∨ j = 5 ∨ j = 6 ∨ j = 7 ∨ j = 8 ∨ j = 9 ∨ j = 10 ∨ j = 11 ∨ j = 12 ∨ j = 13 ∨ j = 14 ∨ j = 15 ∨ j = 16 ∨ j = 17 ∨ j = 18 ∨ j = 19 ∨ j = 20 ∨ j = 21 ∨ j = 22 ∨ j = 23 ∨ j = 24) with rfl | rfl | rfl | rfl | rfl | rfl | rfl | rfl | rfl | rfl | rfl | rfl | rfl | rfl | rfl | rfl | rfl | rfl | rfl | rfl | rfl | rfl | rfl | rfl | rfl <;> simp at h
  · exact hb a h.1 (by omega)
  · exact hm a h.1 (by omega)
  · exact hi a h.1 (by omega)
  · exact ho a h.1 (by omega)
theorem row_block {k : IntKind} {w : World} {a : Option Addr} {n : Nat} {f : Nat → Int} (h : RowK k w a n f) : ∀ x, a = some x → n ≠ 0 → x.block < w.heap.size := by
  intro x e hn
  obtain ⟨_, h0 | ⟨b, off, e2, hc⟩⟩ := h
  · exact absurd h0 hn
  · rw [e] at e2; simp only [Option.some.injEq] at e2; subst e2
    exact World.block_lt_of_cell? w ⟨b, off + 0, none⟩ (hc 0 (by omega))
theorem bytes_block {w : World} {a : Option Addr} {n : Nat} {f : Nat → Int} (h : Bytes w a n f) : ∀ x, a = some x → n ≠ 0 → x.block < w.heap.size := by
  intro x e hn
  obtain ⟨_, h0 | ⟨b, off, e2, hc⟩⟩ := h
  · exact absurd h0 hn
  · rw [e] at e2; simp only [Option.some.injEq] at e2; subst e2
    exact World.block_lt_of_cell? w ⟨b, off + 0, none⟩ (hc 0 (by omega))
/-- A state's rows stand in blocks that are there. -/
theorem avoids_new {w : World} {C : Array Value} {s : St} (h : IsSt w (.agg C) s) {g : Nat} (hg : w.heap.size ≤ g) : Avoids C g := by
  obtain ⟨ba, bc, ma, mc, ia, ic, oa, oc, e, ⟨_, b2⟩, ⟨_, m2⟩, ⟨_, i2⟩, _, o2⟩ := h
  exact avoids_of e (fun a h hn => by have := row_block b2 a h hn; omega) (fun a h hn => by have := bytes_block m2 a h hn; omega) (fun a h hn => by have := bytes_block i2 a h hn; omega) (fun a h hn => by have := bytes_block o2 a h hn; omega)
theorem IsSt.set {w : World} {C : Array Value} {s : St} (h : IsSt w (.agg C) s) {g : Nat} (ha : Avoids C g) (o : Nat) (v : Value) : IsSt (w.setCell ⟨g, o, none⟩ v) (.agg C) s := by
  obtain ⟨ba, bc, ma, mc, ia, ic, oa, oc, e, ⟨b1, b2⟩, ⟨m1, m2⟩, ⟨i1, i2⟩, o1, o2⟩ := h
  have eC := e
  simp only [Value.agg.injEq] at eC
  have kb : ∀ (j : Nat) (a : Option Addr) (n c : Nat), C[j]? = some (.slice a n c) → n ≠ 0 → ∀ b off, a = some ⟨b, off, none⟩ → b ≠ g := fun j a n c hj hn b off ea => ha j ⟨b, off, none⟩ n c (by rw [hj, ea]) hn
  refine ⟨ba, bc, ma, mc, ia, ic, oa, oc, e, ⟨b1, ?_⟩, ⟨m1, ?_⟩, ⟨i1, ?_⟩, o1, ?_⟩
  · by_cases hn : s.bn = 0
    · exact ⟨b2.1, .inl hn⟩
    · exact b2.set (kb 17 ba s.bn bc (by rw [eC]; rfl) hn) o v
  · by_cases hn : s.mn = 0
    · exact ⟨m2.1, .inl hn⟩
    · exact m2.set (kb 19 ma s.mn mc (by rw [eC]; rfl) hn) o v
  · by_cases hn : s.inn = 0
    · exact ⟨i2.1, .inl hn⟩
    · exact i2.set (kb 20 ia s.inn ic (by rw [eC]; rfl) hn) o v
  · by_cases hn : s.on_ = 0
    · exact ⟨o2.1, .inl hn⟩
    · exact o2.set (kb 21 oa s.on_ oc (by rw [eC]; rfl) hn) o v
theorem st_at {w : World} {C : Array Value} {s : St} (h : IsSt w (.agg C) s) (x : Int) : IsSt w (.agg (C.setIfInBounds 0 (.int .i64 x))) { s with at_ := x } := by
  obtain ⟨ba, bc, ma, mc, ia, ic, oa, oc, e, h⟩ := h
  simp only [Value.agg.injEq] at e
  subst e
  exact ⟨ba, bc, ma, mc, ia, ic, oa, oc, rfl, h⟩
theorem cell_setCells_far (b : Nat) : ∀ (vs : List Value) (o : Nat) (w : World) (p : Addr), p.block ≠ b → (w.setCells b o vs).cell? p = w.cell? p
  | [], o, w, p, h => rfl
  | v :: vs, o, w, p, h => (cell_setCells_far b vs (o + 1) _ p h).trans (World.cell?_setCell_other _ _ _ _ (fun e => h (congrArg Addr.block e).symm))
theorem IsSt.setAll {C : Array Value} {s : St} {g : Nat} (ha : Avoids C g) : ∀ (vs : List Value) (o : Nat) (w : World), IsSt w (.agg C) s → IsSt (w.setCells g o vs) (.agg C) s
  | [], o, w, h => h
  | v :: vs, o, w, h => IsSt.setAll ha vs (o + 1) _ (h.set ha o v)
theorem there_later {w w' : World} {b o n : Nat} (h : w.there b o n) (hb : Below w.heap.size w w') : w'.there b o n := fun j hj => by
  obtain ⟨v, hv⟩ := Option.isSome_iff_exists.1 (h j hj).1
  have hl := World.block_lt_of_cell? w ⟨b, o + j, none⟩ hv
  exact ⟨by rw [cell_later' hv hb]; rfl, (hb.frozen (p := ⟨b, o + j, none⟩) hl).trans (h j hj).2⟩
theorem infoB : (Tryd.prog.info? 5).map (fun i => (i.zero, i.size, i.bytes)) = some (some (.int .u8 0), 1, 1) := by kernel_rfl
theorem infoI : (Tryd.prog.info? 3).map (fun i => (i.zero, i.size, i.bytes)) = some (some (.int .i64 0), 1, 8) := by kernel_rfl
theorem infoW : (Tryd.prog.info? 28).map (fun i => (i.zero, i.size, i.bytes)) = some (some (.int .u32 0), 1, 4) := by kernel_rfl
theorem eqB_self (n : Nat) (f : Nat → Int) : eqB n n f f = true := by simp [eqB]
theorem regsB_self (r : Nat → Int) : regsB r r = true := by simp [regsB]
theorem same_self (s : St) : sameZ s s = true := by simp [sameZ, eqB_self, regsB_self]
theorem rsame6_st {w : World} {u v : Value} {s t : St} (hu : IsSt w u s) (hv : IsSt w v t) (ls : s.bn ≤ 100000 ∧ s.mn ≤ 100000 ∧ s.inn ≤ 100000 ∧ s.on_ ≤ 100000) (lt : t.bn ≤ 100000 ∧ t.mn ≤ 100000 ∧ t.inn ≤ 100000 ∧ t.on_ ≤ 100000) :
    Calls Tryd.prog 16 #[u, v] w fun e w' => e = .returned (.bool (sameZ s t)) ∧ Below w.heap.size w w' := by
  obtain ⟨ba, bc, ma, mc, ia, ic, oa, oc, rfl, ⟨b1, b2⟩, ⟨m1, m2⟩, ⟨i1, i2⟩, o1, o2⟩ := hu
  obtain ⟨ba', bc', ma', mc', ia', ic', oa', oc', rfl, ⟨b1', b2'⟩, ⟨m1', m2'⟩, ⟨i1', i2'⟩, o1', o2'⟩ := hv
  exact rsame6_any w _ _ _ _ _ s.bf _ _ _ _ s.mf _ _ _ s.inf _ _ _ s.of_ _ _ _ _ _ _ _ _ t.bf _ _ _ _ t.mf _ _ _ t.inf _ _ _ t.of_ _ _ _ (by omega) (by omega) ⟨b2, m2, i2, o2⟩ ⟨b2', m2', i2', o2'⟩
/-- What a step leaves as it was. -/
def Stays (op : Int) (s t : St) : Prop :=
  t.r 0 = 0 ∧ (t.wt = s.wt ∧ t.mn = s.mn) ∧ (op ≠ 12 → op ≠ 14 → t.mf = s.mf) ∧ (op ≠ 23 → t.on_ = s.on_ ∧ t.of_ = s.of_) ∧ (op ≠ 22 → t.inn = s.inn ∧ t.inf = s.inf) ∧ (op ≠ 20 → op ≠ 21 → t.bn = s.bn) ∧ (t.en = true → t.at_ = s.at_ ∧ t.r = s.r) ∧ (t.bn ≤ s.bn + 1 ∧ t.inn ≤ s.inn ∧ t.on_ ≤ s.on_ + 1)
theorem stays_of {op : Int} {s t : St} (h0 : t.r 0 = 0) (h1 : t.wt = s.wt ∧ t.mn = s.mn) (h2 : op = 12 ∨ op = 14 ∨ t.mf = s.mf) (h3 : op = 23 ∨ t.on_ = s.on_ ∧ t.of_ = s.of_) (h4 : op = 22 ∨ t.inn = s.inn ∧ t.inf = s.inf) (h5 : op = 20 ∨ op = 21 ∨ t.bn = s.bn) (h6 : t.en = false ∨ t.at_ = s.at_ ∧ t.r = s.r) (h7 : t.bn ≤ s.bn + 1 ∧ t.inn ≤ s.inn ∧ t.on_ ≤ s.on_ + 1) : Stays op s t :=
  ⟨h0, h1, fun a b => by rcases h2 with h | h | h; exact absurd h a; exact absurd h b; exact h, fun a => by rcases h3 with h | h; exact absurd h a; exact h, fun a => by rcases h4 with h | h; exact absurd h a; exact h, fun a b => by rcases h5 with h | h | h; exact absurd h a; exact absurd h b; exact h, fun a => by rcases h6 with h | h; (rw [h] at a; cases a); exact h, h7⟩
theorem op_stays (op a b c i : Int) (s : St) (hr : s.r 0 = 0) (he : s.en = false) : Stays op s (opZ op a b c i s) := by
  unfold opZ
  by_cases h0 : op = 0
  · rw [if_pos h0]
    refine stays_of ?_ ?_ ?_ ?_ ?_ ?_ ?_ ?_ <;> first | (simp [setR, hr, he, St.stop]; done) | (simp [hr, he, St.stop]; omega) | omega
  rw [if_neg h0]
  by_cases h1 : op = 25
  · rw [if_pos h1]
    refine stays_of ?_ ?_ ?_ ?_ ?_ ?_ ?_ ?_ <;> first | (simp [setR, hr, he, St.stop]; done) | (simp [hr, he, St.stop]; omega) | omega
  rw [if_neg h1]
  by_cases h2 : op = 21
  · rw [if_pos h2]
    by_cases g : s.bn = 0
    · rw [if_pos g]; refine stays_of ?_ ?_ ?_ ?_ ?_ ?_ ?_ ?_ <;> first | (simp [setR, hr, he, St.stop]; done) | (simp [hr, he, St.stop]; omega) | omega
    · rw [if_neg g]; refine stays_of ?_ ?_ ?_ ?_ ?_ ?_ ?_ ?_ <;> first | (simp [setR, hr, he, St.stop]; done) | (simp [hr, he, St.stop]; omega) | omega
  rw [if_neg h2]
  by_cases h3 : op = 11 ∨ op = 13
  · rw [if_pos h3]
    by_cases g : okB s.mn (whereZ s b i) (op == 11) = true
    · rw [if_pos g]; refine stays_of ?_ ?_ ?_ ?_ ?_ ?_ ?_ ?_ <;> first | (simp [setR, hr, he, St.stop]; done) | (simp [hr, he, St.stop]; omega) | omega
    · rw [if_neg g]; refine stays_of ?_ ?_ ?_ ?_ ?_ ?_ ?_ ?_ <;> first | (simp [setR, hr, he, St.stop]; done) | (simp [hr, he, St.stop]; omega) | omega
  rw [if_neg h3]
  by_cases h4 : op = 12 ∨ op = 14
  · rw [if_pos h4]
    by_cases g : saveB s.mn (whereZ s b i) (op == 12) s.wt = true
    · rw [if_pos g]; refine stays_of ?_ ?_ ?_ ?_ ?_ ?_ ?_ ?_ <;> first | (simp [setR, hr, he, St.stop]; done) | (simp [hr, he, St.stop]; omega) | omega
    · rw [if_neg g]; refine stays_of ?_ ?_ ?_ ?_ ?_ ?_ ?_ ?_ <;> first | (simp [setR, hr, he, St.stop]; done) | (simp [hr, he, St.stop]; omega) | omega
  rw [if_neg h4]
  by_cases h5 : op = 22
  · rw [if_pos h5]
    by_cases g : s.inn = 0
    · rw [if_pos g]; refine stays_of ?_ ?_ ?_ ?_ ?_ ?_ ?_ ?_ <;> first | (simp [setR, hr, he, St.stop]; done) | (simp [hr, he, St.stop]; omega) | omega
    · rw [if_neg g]; refine stays_of ?_ ?_ ?_ ?_ ?_ ?_ ?_ ?_ <;> first | (simp [setR, hr, he, St.stop]; done) | (simp [hr, he, St.stop]; omega) | omega
  rw [if_neg h5]
  by_cases h6 : op = 23
  · rw [if_pos h6]
    by_cases g : s.on_ < 4096
    · rw [if_pos g]; refine stays_of ?_ ?_ ?_ ?_ ?_ ?_ ?_ ?_ <;> first | (simp [setR, hr, he, St.stop]; done) | (simp [hr, he, St.stop]; omega) | omega
    · rw [if_neg g]; refine stays_of ?_ ?_ ?_ ?_ ?_ ?_ ?_ ?_ <;> first | (simp [setR, hr, he, St.stop]; done) | (simp [hr, he, St.stop]; omega) | omega
  rw [if_neg h6]
  by_cases h7 : op = 24
  · rw [if_pos h7]
    refine stays_of ?_ ?_ ?_ ?_ ?_ ?_ ?_ ?_ <;> first | (simp [setR, hr, he, St.stop]; done) | (simp [hr, he, St.stop]; omega) | omega
  rw [if_neg h7]
  by_cases h8 : op = 19
  · rw [if_pos h8]
    refine stays_of ?_ ?_ ?_ ?_ ?_ ?_ ?_ ?_ <;> first | (simp [setR, hr, he, St.stop]; done) | (simp [hr, he, St.stop]; omega) | omega
  rw [if_neg h8]
  by_cases h9 : op = 20
  · rw [if_pos h9]
    refine stays_of ?_ ?_ ?_ ?_ ?_ ?_ ?_ ?_ <;> first | (simp [setR, hr, he, St.stop]; done) | (simp [hr, he, St.stop]; omega) | omega
  rw [if_neg h9]
  by_cases h10 : 15 ≤ op ∧ op ≤ 18
  · rw [if_pos h10]
    refine stays_of ?_ ?_ ?_ ?_ ?_ ?_ ?_ ?_ <;> first | (simp [setR, hr, he, St.stop]; done) | (simp [hr, he, St.stop]; omega) | omega
  rw [if_neg h10]
  refine stays_of ?_ ?_ ?_ ?_ ?_ ?_ ?_ ?_ <;> first | (simp [setR, hr, he, St.stop]; done) | (simp [hr, he, St.stop]; omega) | omega
/-- The operation that is read. -/
def opOf (n : Nat) (f : Nat → Int) (s : St) : Int := if (n : Int) ≤ s.at_ then -1 else if okG (f s.at_.toNat) = true then gO (f s.at_.toNat) else -1
theorem stop_stays (op k : Int) (s : St) (hr : s.r 0 = 0) : Stays op s (s.stop k) := by
  refine stays_of ?_ ?_ ?_ ?_ ?_ ?_ ?_ ?_ <;> first | (simp [hr, St.stop]; done)
theorem step_stays (n : Nat) (f : Nat → Int) (s : St) (hr : s.r 0 = 0) (he : s.en = false) : Stays (opOf n f s) s (stepZ n f s) := by
  unfold stepZ opOf
  have e : ¬ s.en = true := by rw [he]; decide
  rw [if_neg e]
  by_cases h : (n : Int) ≤ s.at_
  · rw [if_pos h, if_pos h]; exact stop_stays _ _ s hr
  · rw [if_neg h, if_neg h]
    by_cases g : okG (f s.at_.toNat) = true
    · rw [if_pos g, if_pos g]; exact op_stays _ _ _ _ _ s hr he
    · rw [if_neg g, if_neg g]; exact stop_stays _ _ s hr
theorem step_call (n : Nat) (F : Nat → Int) (s : St) (he : s.en = false) (i : Nat) (hi : s.at_ = i) (hn : i < n) (x : Int) (hx : F i = x) (h1 : okG x = true) (h2 : gO x = 20) :
    stepZ n F s = { s with at_ := s.at_ + 1 + gI x, bn := s.bn + 1, bf := fun k => if k = s.bn then s.at_ + 1 else s.bf k } := by
  have e : s.at_.toNat = i := by omega
  unfold stepZ
  rw [if_neg (by rw [he]; decide), if_neg (by omega), e, hx, if_pos h1, h2]
  unfold opZ
  simp
theorem step_ret (n : Nat) (F : Nat → Int) (s : St) (he : s.en = false) (i : Nat) (hi : s.at_ = i) (hn : i < n) (x : Int) (hx : F i = x) (h1 : okG x = true) (h2 : gO x = 21) (hb : s.bn ≠ 0) :
    stepZ n F s = { s with at_ := s.bf (s.bn - 1), bn := s.bn - 1 } := by
  have e : s.at_.toNat = i := by omega
  unfold stepZ
  rw [if_neg (by rw [he]; decide), if_neg (by omega), e, hx, if_pos h1, h2]
  unfold opZ
  simp [hb]
theorem step_in (n : Nat) (F : Nat → Int) (s : St) (he : s.en = false) (i : Nat) (hi : s.at_ = i) (hn : i < n) (x : Int) (hx : F i = x) (h1 : okG x = true) (h2 : gO x = 22) (hb : s.inn ≠ 0) :
    stepZ n F s = { s with r := setR s.r (gA x) (s.inf 0), inn := s.inn - 1, inf := fun k => s.inf (k + 1), at_ := s.at_ + 1 } := by
  have e : s.at_.toNat = i := by omega
  unfold stepZ
  rw [if_neg (by rw [he]; decide), if_neg (by omega), e, hx, if_pos h1, h2]
  unfold opZ
  simp [hb]
theorem step_halt (n : Nat) (F : Nat → Int) (s : St) (he : s.en = false) (i : Nat) (hi : s.at_ = i) (hn : i < n) (x : Int) (hx : F i = x) (h1 : okG x = true) (h2 : gO x = 0) :
    stepZ n F s = { s with cd := s.r (gA x).toNat, en := true, ft := 0 } := by
  have e : s.at_.toNat = i := by omega
  unfold stepZ
  rw [if_neg (by rw [he]; decide), if_neg (by omega), e, hx, if_pos h1, h2]
  unfold opZ
  simp
theorem call_back (s : St) (p : Int) : sameZ { s with at_ := s.at_ + 1, bn := s.bn + 1 - 1, bf := fun k => if k = s.bn then s.at_ + 1 else s.bf k } { s with at_ := s.at_ + 1 } = true := by
  simp [sameZ, eqB_self, regsB_self]
  unfold eqB
  simp
  intro i hi e
  omega
theorem step_ended (n : Nat) (f : Nat → Int) (s : St) (he : s.en = true) : stepZ n f s = s := by unfold stepZ; rw [if_pos he]
end Go.Proofs.YtnpejnjigaalfaaDoor
