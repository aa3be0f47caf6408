/- A state in a variable of the call's own, and what is put into its cells. -/
import Derived.Test.YtnpejnjigaalfaaDoorCalm
import Derived.Test.YtnpejnjigaalfaaDoorSliceLib
namespace Go.Proofs.YtnpejnjigaalfaaDoor
open Go.ChangeShapes Go.WideShapes Go.ChangeAt Go.RowKit
set_option linter.unusedVariables false
set_option linter.unusedSimpArgs false
theorem size_setCells (b : Nat) : ∀ (vs : List Value) (o : Nat) (w : World), (w.setCells b o vs).heap.size = w.heap.size
  | [], o, w => rfl
  | v :: vs, o, w => (size_setCells b vs (o + 1) _).trans (by simp)
/-- The list in this cell doesn't lie there. -/
def AvoidsAt (C : Array Value) (j g : Nat) : Prop := ∀ (a : Addr) (n c : Nat), C[j]? = some (.slice (some a) n c) → n ≠ 0 → a.block ≠ g
/-- What of a state's lists is kept, or new: which blocks they keep clear of; the memory's row is as it was, or a new one that may be written. -/
structure Onward (w W : World) (C0 C : Array Value) : Prop where
  avj : ∀ g j, g < w.heap.size → AvoidsAt C0 j g → AvoidsAt C j g
  mem : C[19]? = C0[19]? ∨ ∃ g n c, C[19]? = some (.slice (some ⟨g, 0, none⟩) n c) ∧ w.heap.size ≤ g ∧ g < W.heap.size ∧ ∀ q, W.frozen? ⟨g, q, none⟩ = false
theorem Onward.av {w W : World} {C0 C : Array Value} (h : Onward w W C0 C) (g : Nat) (hg : g < w.heap.size) (ha : Avoids C0 g) : Avoids C g := fun j => h.avj g j hg (ha j)
theorem Onward.refl (w W : World) (C : Array Value) : Onward w W C C := ⟨fun _ _ _ h => h, .inl rfl⟩
theorem Onward.later {w W W' : World} {C0 C : Array Value} (h : Onward w W C0 C) (hb : Below W.heap.size W W') : Onward w W' C0 C :=
  ⟨h.avj, h.mem.imp id fun ⟨g, n, c, e, h1, h2, h3⟩ => ⟨g, n, c, e, h1, Nat.lt_of_lt_of_le h2 hb.size, fun q => (hb.frozen (p := ⟨g, q, none⟩) h2).trans (h3 q)⟩⟩
theorem Onward.back {w W W' : World} {C C' : Array Value} (h : Onward W W' C C') (hB : Below w.heap.size w W) : Onward w W' C C' :=
  ⟨fun g j hg ha => h.avj g j (Nat.lt_of_lt_of_le hg hB.size) ha, h.mem.imp id fun ⟨g, n, c, e, h1, h2, h3⟩ => ⟨g, n, c, e, Nat.le_trans hB.size h1, h2, h3⟩⟩
theorem Onward.trans {w W W' : World} {C C1 C2 : Array Value} (h1 : Onward w W C C1) (h2 : Onward W W' C1 C2) (hB : Below w.heap.size w W) (hB2 : Below W.heap.size W W') : Onward w W' C C2 := by
  refine ⟨fun g j hg ha => h2.avj g j (Nat.lt_of_lt_of_le hg hB.size) (h1.avj g j hg ha), ?_⟩
  obtain e | h := h2.mem
  · rw [e]; exact (h1.later hB2).mem
  · exact (Onward.back ⟨h2.avj, .inr h⟩ hB).mem.elim (fun e => by rw [e]; exact (h1.later hB2).mem) .inr
theorem Onward.cells {w W : World} {C0 C : Array Value} (h : Onward w W C0 C) (b o : Nat) (vs : List Value) : Onward w (W.setCells b o vs) C0 C :=
  ⟨h.avj, h.mem.imp id fun ⟨g, n, c, e, h1, h2, h3⟩ => ⟨g, n, c, e, h1, by rw [size_setCells]; exact h2, fun q => by rw [frozen_setCells]; exact h3 q⟩⟩
/-- What a function that makes a state of a state returns. -/
def StPost (w : World) (C : Array Value) (s' : St) (e : Ending) (w' : World) : Prop :=
  ∃ C', e = .returned (.agg C') ∧ IsSt w' (.agg C') s' ∧ Onward w w' C C' ∧ Below w.heap.size w w'
theorem StPost.from {W w' : World} {C C1 : Array Value} {s' : St} {e : Ending} (w : World) (hB : Below w.heap.size w W) (hA : Onward w W C C1) (h : StPost W C1 s' e w') : StPost w C s' e w' := by
  obtain ⟨C', h1, h2, h3, h4⟩ := h
  exact ⟨C', h1, h2, hA.trans h3 hB h4, bnext hB h4⟩
/-- The empty state's cells. -/
def noSt : Array Value := #[.int .i64 0, .int .u32 0, .int .u32 0, .int .u32 0, .int .u32 0, .int .u32 0, .int .u32 0, .int .u32 0, .int .u32 0, .int .u32 0, .int .u32 0, .int .u32 0, .int .u32 0, .int .u32 0, .int .u32 0, .int .u32 0, .int .u32 0, .slice none 0 0, .int .i64 0, .slice none 0 0, .slice none 0 0, .slice none 0 0, .bool false, .int .u32 0, .int .i64 0]
/-- A state stands in the block b, and there is room for another in r. -/
structure Boxed (w W : World) (b r : Nat) (C0 C : Array Value) (s : St) : Prop where
  bel : Below w.heap.size w W
  hb : w.heap.size ≤ b ∧ w.heap.size ≤ r ∧ b ≠ r ∧ b < W.heap.size ∧ r < W.heap.size
  at_ : At W b C
  fz : ∀ q, W.frozen? ⟨b, q, none⟩ = false
  room : W.there r 0 25
  st : IsSt W (.agg C) s
  on : Onward w W C0 C
  avb : Avoids C b
  avr : Avoids C r
theorem Boxed.new {w : World} {C : Array Value} {s : St} (h : IsSt w (.agg C) s) (t t2 : TypeId) : Boxed w ((w.alloc (.cells C t)).alloc (.cells noSt t2)) w.heap.size (w.heap.size + 1) C C s := by
  have e : (w.alloc (.cells C t)).heap.size = w.heap.size + 1 := by simp
  have b1 : Below w.heap.size w (w.alloc (.cells C t)) := (Below.refl _ w).alloc (Nat.le_refl _) _
  have b2 : Below (w.alloc (.cells C t)).heap.size (w.alloc (.cells C t)) ((w.alloc (.cells C t)).alloc (.cells noSt t2)) := (Below.refl _ _).alloc (Nat.le_refl _) _
  refine ⟨bnext b1 b2, ⟨Nat.le_refl _, by omega, by omega, by simp; omega, by simp⟩, (At.new w C t).later b2, fun q => ?_, ?_, h.later (bnext b1 b2), Onward.refl _ _ _, avoids_new h (Nat.le_refl _), avoids_new h (by omega)⟩
  · refine (b2.frozen (p := ⟨w.heap.size, q, none⟩) (by rw [e]; exact Nat.lt_succ_self _)).trans ?_
    simp [go_sem]
  · have h := fresh_there (w.alloc (.cells C t)) noSt noSt t2 rfl
    rwa [e] at h
theorem Boxed.new3 {w : World} {C : Array Value} {s : St} (h : IsSt w (.agg C) s) (t t1 t2 : TypeId) (D : Array Value) : Boxed w (((w.alloc (.cells C t)).alloc (.cells D t1)).alloc (.cells noSt t2)) w.heap.size (w.heap.size + 2) C C s := by
  have e : (w.alloc (.cells C t)).heap.size = w.heap.size + 1 := by simp
  have e2 : ((w.alloc (.cells C t)).alloc (.cells D t1)).heap.size = w.heap.size + 2 := by simp
  have b1 : Below w.heap.size w (w.alloc (.cells C t)) := (Below.refl _ w).alloc (Nat.le_refl _) _
  have b2 : Below (w.alloc (.cells C t)).heap.size (w.alloc (.cells C t)) (((w.alloc (.cells C t)).alloc (.cells D t1)).alloc (.cells noSt t2)) := ((Below.refl _ _).alloc (Nat.le_refl _) _).alloc (by simp) _
  refine ⟨bnext b1 b2, ⟨Nat.le_refl _, by omega, by omega, by simp; omega, by simp⟩, (At.new w C t).later b2, fun q => ?_, ?_, h.later (bnext b1 b2), Onward.refl _ _ _, avoids_new h (Nat.le_refl _), avoids_new h (by omega)⟩
  · refine (b2.frozen (p := ⟨w.heap.size, q, none⟩) (by rw [e]; exact Nat.lt_succ_self _)).trans ?_
    simp [go_sem]
  · have h := fresh_there ((w.alloc (.cells C t)).alloc (.cells D t1)) noSt noSt t2 rfl
    rwa [e2] at h
theorem Boxed.later {w W W' : World} {b r : Nat} {C0 C : Array Value} {s : St} (h : Boxed w W b r C0 C s) (hb : Below W.heap.size W W') : Boxed w W' b r C0 C s :=
  ⟨bnext h.bel hb, ⟨h.hb.1, h.hb.2.1, h.hb.2.2.1, Nat.lt_of_lt_of_le h.hb.2.2.2.1 hb.size, Nat.lt_of_lt_of_le h.hb.2.2.2.2 hb.size⟩, h.at_.later hb, fun q => (hb.frozen (p := ⟨b, q, none⟩) h.hb.2.2.2.1).trans (h.fz q), there_later h.room hb, h.st.later hb, h.on.later hb, h.avb, h.avr⟩
/-- A value that is no list, or one that doesn't lie there. -/
def Off (v : Value) (g : Nat) : Prop := ∀ (a : Addr) (n c : Nat), v = .slice (some a) n c → n ≠ 0 → a.block ≠ g
theorem Avoids.put {C : Array Value} {g : Nat} (h : Avoids C g) {v : Value} (hv : Off v g) (k : Nat) : Avoids (C.setIfInBounds k v) g := by
  intro j a n c hj hn
  rw [Array.getElem?_setIfInBounds] at hj
  split at hj
  · split at hj
    · exact hv a n c (Option.some.inj hj) hn
    · cases hj
  · exact h j a n c hj hn
theorem AvoidsAt.put {C : Array Value} {j g : Nat} (h : AvoidsAt C j g) {v : Value} (hv : Off v g) (k : Nat) : AvoidsAt (C.setIfInBounds k v) j g := by
  intro a n c hj hn
  rw [Array.getElem?_setIfInBounds] at hj
  split at hj
  · split at hj
    · exact hv a n c (Option.some.inj hj) hn
    · cases hj
  · exact h a n c hj hn
theorem off_int (k : IntKind) (x : Int) (g : Nat) : Off (.int k x) g := fun a n c e => by cases e
theorem off_bool (x : Bool) (g : Nat) : Off (.bool x) g := fun a n c e => by cases e
theorem off_new {a : Option Addr} {n c h g : Nat} (hx : ∀ x, a = some x → h ≤ x.block) (hg : g < h) : Off (.slice a n c) g := fun x n' c' e hn => by
  simp only [Value.slice.injEq] at e
  have := hx x e.1; omega
theorem size_there {w w' : World} {b o n : Nat} (h : w.there b o n) (q : Addr) (v : Value) : (w.setCell q v).there b o n := by
  have := World.there_setCells h q.block q.off [v]
  intro j hj
  refine ⟨?_, by simp; exact (h j hj).2⟩
  by_cases e : q = ⟨b, o + j, none⟩
  · subst e
    obtain ⟨u, hu⟩ := Option.isSome_iff_exists.1 (h j hj).1
    rw [World.cell?_setCell_same _ _ _ hu]; rfl
  · rw [World.cell?_setCell_other _ _ _ _ e]; exact (h j hj).1
theorem get_other (C : Array Value) (k : Nat) (v : Value) (h : k ≠ 19) : (C.setIfInBounds k v)[19]? = C[19]? := by
  rw [Array.getElem?_setIfInBounds, if_neg h]
theorem Onward.set {w W : World} {C0 C : Array Value} (h : Onward w W C0 C) (b k : Nat) (v : Value) (hv : ∀ g, g < w.heap.size → Off v g) (hk : k ≠ 19) : Onward w (W.setCell ⟨b, k, none⟩ v) C0 (C.setIfInBounds k v) :=
  ⟨fun g j hg ha => (h.avj g j hg ha).put (hv g hg) k, by
    rw [get_other _ _ _ hk]
    exact h.mem.imp id fun ⟨g, n, c, e, h1, h2, h3⟩ => ⟨g, n, c, e, h1, by simpa using h2, fun q => by simpa using h3 q⟩⟩
/-- A cell of the state in the block is written. -/
theorem Boxed.put {w W : World} {b r : Nat} {C0 C : Array Value} {s s' : St} (h : Boxed w W b r C0 C s) (k : Nat) (hk : k < 25) (v : Value) (hv : ∀ g, g < w.heap.size ∨ g = b ∨ g = r → Off v g)
    (hs : IsSt W (.agg (C.setIfInBounds k v)) s') (h19 : k ≠ 19 := by omega) : Boxed w (W.setCell ⟨b, k, none⟩ v) b r C0 (C.setIfInBounds k v) s' := by
  have hA : Avoids (C.setIfInBounds k v) b := h.avb.put (hv b (.inr (.inl rfl))) k
  exact ⟨h.bel.setCell (p := ⟨b, k, none⟩) h.hb.1 v, by simpa using h.hb, h.at_.set k (by rw [(st_shape h.st).1]; exact hk) v, fun q => by simpa using h.fz q, size_there (w' := W) h.room _ _, hs.set hA k v,
    h.on.set b k v (fun g hg => hv g (.inl hg)) h19, hA, h.avr.put (hv r (.inr (.inr rfl))) k⟩
/-- The memory's cell is written: a new row, that may be written. -/
theorem Boxed.putMem {w W : World} {b r : Nat} {C0 C : Array Value} {s s' : St} (h : Boxed w W b r C0 C s) (g n c : Nat) (hg : w.heap.size ≤ g) (hb : g ≠ b) (hr : g ≠ r) (hl : g < W.heap.size) (hf : ∀ q, W.frozen? ⟨g, q, none⟩ = false)
    (hs : IsSt W (.agg (C.setIfInBounds 19 (.slice (some ⟨g, 0, none⟩) n c))) s') : Boxed w (W.setCell ⟨b, 19, none⟩ (.slice (some ⟨g, 0, none⟩) n c)) b r C0 (C.setIfInBounds 19 (.slice (some ⟨g, 0, none⟩) n c)) s' := by
  have ho : ∀ x, x ≠ g → Off (.slice (some ⟨g, 0, none⟩) n c) x := fun x hx a n' c' e hn => by cases e; exact fun e => hx e.symm
  have hA : Avoids (C.setIfInBounds 19 (.slice (some ⟨g, 0, none⟩) n c)) b := h.avb.put (ho b hb.symm) 19
  have h25 := (st_shape h.st).1
  exact ⟨h.bel.setCell (p := ⟨b, 19, none⟩) h.hb.1 _, by simpa using h.hb, h.at_.set 19 (by rw [h25]; omega) _, fun q => by simpa using h.fz q, size_there (w' := W) h.room _ _, hs.set hA 19 _,
    ⟨fun x j hx ha => (h.on.avj x j hx ha).put (ho x (by omega)) 19, .inr ⟨g, n, c, by rw [Array.getElem?_setIfInBounds, if_pos rfl, if_pos (by rw [h25]; omega)], hg, by simpa using hl, fun q => by simpa using hf q⟩⟩, hA, h.avr.put (ho r hr.symm) 19⟩
/-- A state is put into the room. -/
structure Told (w W : World) (r : Nat) (C0 C : Array Value) (s : St) : Prop where
  bel : Below w.heap.size w W
  at_ : At W r C
  st : IsSt W (.agg C) s
  on : Onward w W C0 C
theorem Told.mk' {w W : World} {r : Nat} {C0 C : Array Value} {s : St} (hb : Below w.heap.size w W) (hr : w.heap.size ≤ r) (ht : W.there r 0 25) (hs : IsSt W (.agg C) s) (hv : Onward w W C0 C) (ha : Avoids C r) :
    Told w (W.setCells r 0 C.toList) r C0 C s :=
  ⟨below_setCells _ _ _ _ hb hr, at_of_range (World.rangeAt_setCells_same W r 0 C.toList (by rw [Array.length_toList, (st_shape hs).1]; exact ht)), IsSt.setAll ha _ _ _ hs, hv.cells _ _ _⟩
/-- What was called with the state of the block is put into the room. -/
theorem Told.call {w W W' : World} {b r : Nat} {C0 C C' : Array Value} {s s' : St} (h : Boxed w W b r C0 C s) (hb : Below W.heap.size W W') (hs : IsSt W' (.agg C') s') (hv : Onward W W' C C') :
    Told w (W'.setCells r 0 C'.toList) r C0 C' s' :=
  Told.mk' (bnext h.bel hb) h.hb.2.1 (there_later h.room hb) hs (h.on.trans hv h.bel hb) (hv.av r h.hb.2.2.2.2 h.avr)
theorem Told.same {w W : World} {b r : Nat} {C0 C : Array Value} {s : St} (h : Boxed w W b r C0 C s) : Told w (W.setCells r 0 C.toList) r C0 C s :=
  Told.mk' h.bel h.hb.2.1 h.room h.st h.on h.avr
theorem Told.post {w W : World} {r : Nat} {C0 C : Array Value} {s : St} (h : Told w W r C0 C s) : StPost w C0 s (.returned (.agg C)) W := ⟨C, rfl, h.st, h.on, h.bel⟩
/-- A store of a whole state into the room, and the rest. -/
theorem wpList_store_room {ops : Array Oper} {rest : List Oper} {op : Oper} {a : Act} {W : World} {Q : Exit → Act → World → Prop} (hgd : op.guard = none) (x y : Operand) (ho : op.op = .store 37 x y)
    (r : Nat) (C : Array Value) (hx : a.eval x = .pointer (some ⟨r, 0, none⟩)) (hy : a.eval y = .agg C) {w w0 : World} {s : St} (hs : IsSt w0 (.agg C) s) (ht : W.there r 0 25)
    (h : wpList Tryd.prog ops Q rest (a.put op.dst undef) (W.setCells r 0 C.toList)) : wpList Tryd.prog ops Q (op :: rest) a W :=
  wpList_store_mid hgd 37 x y ho r 0 C hx hy (by rw [(st_shape hs).1]; exact ht) (st_info hs).1 (st_shape hs).2 h
/-! ### What cells are written -/
theorem st_congr {w : World} {v : Value} {s : St} (h : IsSt w v s) {r' : Nat → Int} (hr : ∀ j, j < 16 → r' j = s.r j) : IsSt w v { s with r := r' } := by
  obtain ⟨ba, bc, ma, mc, ia, ic, oa, oc, e, h⟩ := h
  refine ⟨ba, bc, ma, mc, ia, ic, oa, oc, ?_, h⟩
  rw [e]
  unfold stateV
  simp only [hr 0 (by omega), hr 1 (by omega), hr 2 (by omega), hr 3 (by omega), hr 4 (by omega), hr 5 (by omega), hr 6 (by omega), hr 7 (by omega), hr 8 (by omega), hr 9 (by omega), hr 10 (by omega), hr 11 (by omega), hr 12 (by omega), hr 13 (by omega), hr 14 (by omega), hr 15 (by omega)]
theorem put_en {w : World} {C : Array Value} {s : St} (h : IsSt w (.agg C) s) (x : Bool) : IsSt w (.agg (C.setIfInBounds 22 (.bool x))) { s with en := x } := by
  obtain ⟨ba, bc, ma, mc, ia, ic, oa, oc, e, h⟩ := h
  simp only [Value.agg.injEq] at e
  subst e
  exact ⟨ba, bc, ma, mc, ia, ic, oa, oc, rfl, h⟩
theorem put_cd {w : World} {C : Array Value} {s : St} (h : IsSt w (.agg C) s) (x : Int) : IsSt w (.agg (C.setIfInBounds 23 (.int .u32 x))) { s with cd := x } := by
  obtain ⟨ba, bc, ma, mc, ia, ic, oa, oc, e, h⟩ := h
  simp only [Value.agg.injEq] at e
  subst e
  exact ⟨ba, bc, ma, mc, ia, ic, oa, oc, rfl, h⟩
theorem put_ft {w : World} {C : Array Value} {s : St} (h : IsSt w (.agg C) s) (x : Int) : IsSt w (.agg (C.setIfInBounds 24 (.int .i64 x))) { s with ft := x } := by
  obtain ⟨ba, bc, ma, mc, ia, ic, oa, oc, e, h⟩ := h
  simp only [Value.agg.injEq] at e
  subst e
  exact ⟨ba, bc, ma, mc, ia, ic, oa, oc, rfl, h⟩
theorem put_bk {w : World} {C : Array Value} {s : St} (h : IsSt w (.agg C) s) (a : Option Addr) (n c : Nat) (f : Nat → Int) (h1 : Head a n c ∧ RowK .i64 w a n f) : IsSt w (.agg (C.setIfInBounds 17 (.slice a n c))) { s with bn := n, bf := f } := by
  obtain ⟨ba, bc, ma, mc, ia, ic, oa, oc, e, h⟩ := h
  simp only [Value.agg.injEq] at e
  subst e
  exact ⟨a, c, ma, mc, ia, ic, oa, oc, rfl, h1, h.2⟩
theorem put_mem {w : World} {C : Array Value} {s : St} (h : IsSt w (.agg C) s) (a : Option Addr) (n c : Nat) (f : Nat → Int) (h1 : Head a n c ∧ Bytes w a n f) : IsSt w (.agg (C.setIfInBounds 19 (.slice a n c))) { s with mn := n, mf := f } := by
  obtain ⟨ba, bc, ma, mc, ia, ic, oa, oc, e, h⟩ := h
  simp only [Value.agg.injEq] at e
  subst e
  exact ⟨ba, bc, a, c, ia, ic, oa, oc, rfl, h.1, h1, h.2.2⟩
theorem put_in {w : World} {C : Array Value} {s : St} (h : IsSt w (.agg C) s) (a : Option Addr) (n c : Nat) (f : Nat → Int) (h1 : Head a n c ∧ Bytes w a n f) : IsSt w (.agg (C.setIfInBounds 20 (.slice a n c))) { s with inn := n, inf := f } := by
  obtain ⟨ba, bc, ma, mc, ia, ic, oa, oc, e, h⟩ := h
  simp only [Value.agg.injEq] at e
  subst e
  exact ⟨ba, bc, ma, mc, a, c, oa, oc, rfl, h.1, h.2.1, h1, h.2.2.2⟩
theorem put_out {w : World} {C : Array Value} {s : St} (h : IsSt w (.agg C) s) (a : Option Addr) (n c : Nat) (f : Nat → Int) (h1 : Head a n c ∧ Bytes w a n f) : IsSt w (.agg (C.setIfInBounds 21 (.slice a n c))) { s with on_ := n, of_ := f } := by
  obtain ⟨ba, bc, ma, mc, ia, ic, oa, oc, e, h⟩ := h
  simp only [Value.agg.injEq] at e
  subst e
  exact ⟨ba, bc, ma, mc, ia, ic, a, c, rfl, h.1, h.2.1, h.2.2.1, h1⟩
theorem put_reg {w : World} {C : Array Value} {s : St} (h : IsSt w (.agg C) s) (k : Nat) (hk : k < 16) (x : Int) : IsSt w (.agg (C.setIfInBounds (1 + k) (.int .u32 x))) { s with r := fun j => if j = k then x else s.r j } := by
  obtain ⟨ba, bc, ma, mc, ia, ic, oa, oc, e, h⟩ := h
  simp only [Value.agg.injEq] at e
  subst e
  refine ⟨ba, bc, ma, mc, ia, ic, oa, oc, ?_, h⟩
  rcases (by omega : k = 0 ∨ k = 1 ∨ k = 2 ∨ k = 3 ∨ k = 4 ∨ k = 5 ∨ k = 6 ∨ k = 7 ∨ k = 8 ∨ k = 9 ∨ k = 10 ∨ k = 11 ∨ k = 12 ∨ k = 13 ∨ k = 14 ∨ k = 15) with rfl | rfl | rfl | rfl | rfl | rfl | rfl | rfl | rfl | rfl | rfl | rfl | rfl | rfl | rfl | rfl <;> rfl
end Go.Proofs.YtnpejnjigaalfaaDoor
