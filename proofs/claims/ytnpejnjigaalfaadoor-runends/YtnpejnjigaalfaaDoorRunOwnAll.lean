/- Lists of a run's own: what a function returns that hands on a state with lists of its own. What run.own returns. -/
import Derived.Test.YtnpejnjigaalfaaDoorCpuNew
import Derived.Test.YtnpejnjigaalfaaDoorCpuB
import Derived.Deep.AppendLies
namespace Go.Proofs.YtnpejnjigaalfaaDoor
open Go.ChangeShapes Go.WideShapes Go.ChangeAt Go.RowKit
set_option linter.unusedVariables false
set_option linter.unusedSimpArgs false
/-! ### One block is written to, and new ones are made -/
theorem grown_below {w w' : World} (h : Below w.heap.size w w') (r : Option Nat) : w.grownBy w' r := ⟨h.os, h.tape, h.output, h.size, fun k hk _ => h.block k hk⟩
theorem grown_set (w : World) (b o : Nat) (v : Value) : w.grownBy (w.setCell ⟨b, o, none⟩ v) (some b) :=
  ⟨rfl, rfl, rfl, by simp, fun k hk hne => Below.heap_setCell _ _ _ _ (fun e => hne (by rw [e]))⟩
theorem grown_trans {w w1 w2 : World} {r : Option Nat} (h1 : w.grownBy w1 r) (h2 : w1.grownBy w2 r) : w.grownBy w2 r :=
  ⟨h2.os.trans h1.os, h2.tape.trans h1.tape, h2.output.trans h1.output, Nat.le_trans h1.size h2.size, fun k hk hne => (h2.block k (Nat.lt_of_lt_of_le hk h1.size) hne).trans (h1.block k hk hne)⟩
theorem grown_setCells (b : Nat) : ∀ (vs : List Value) (o : Nat) (w : World), w.grownBy (w.setCells b o vs) (some b)
  | [], o, w => World.grownBy.refl w _
  | v :: vs, o, w => grown_trans (grown_set w b o v) (grown_setCells b vs (o + 1) _)
theorem own_keeps {w w' : World} {base : Nat} {e : TypeId} {size : Nat} {v : Value} {n : Nat} {xs : List Value} {r : Option Nat} (h : w.ownsRow base e size v n xs) (hg : w.grownBy w' r) (hr : ∀ q, v.ownBlock = some q → some q ≠ r) : w'.ownsRow base e size v n xs := by
  obtain ⟨h1, h2⟩ := h
  refine ⟨h1, ?_⟩
  rcases h2 with h2 | ⟨g, cap, cur, hv, hb, hh, r2⟩
  · exact .inl h2
  · have hl : g < w.heap.size := by
      rcases Nat.lt_or_ge g w.heap.size with h | h
      · exact h
      · rw [Array.getElem?_eq_none h] at hh; cases hh
    exact .inr ⟨g, cap, cur, hv, hb, (hg.block g hl (hr g (by rw [hv]; rfl))).trans hh, r2⟩
theorem own_base {w : World} {base base' : Nat} {e : TypeId} {size : Nat} {v : Value} {n : Nat} {xs : List Value} (h : w.ownsRow base e size v n xs) (hb : base' ≤ base) : w.ownsRow base' e size v n xs := by
  obtain ⟨h1, h2⟩ := h
  refine ⟨h1, h2.imp id fun ⟨g, cap, cur, hv, hg, r⟩ => ⟨g, cap, cur, hv, Nat.le_trans hb hg, r⟩⟩
theorem own_take {k : IntKind} {w : World} {base : Nat} {e : TypeId} {a : Option Addr} {n c : Nat} {f : Nat → Int} (h : w.ownsRow base e 1 (.slice a n c) n (cellsK k n f)) (d : Nat) (hd : d ≤ n) : w.ownsRow base e 1 (.slice a d c) d (cellsK k d f) := by
  obtain ⟨h1, h2⟩ := h
  refine ⟨by rw [cellsK_len, Nat.mul_one], ?_⟩
  rcases h2 with ⟨hv, rfl⟩ | ⟨g, cap, cur, hv, hb, hh, hn, hm, hs, ht⟩
  · obtain rfl : d = 0 := by omega
    exact .inl ⟨hv, rfl⟩
  · simp only [Value.slice.injEq, true_and] at hv
    obtain ⟨rfl, rfl⟩ := hv
    refine .inr ⟨g, _, cur, rfl, hb, hh, Nat.le_trans hd hn, hm, hs, ?_⟩
    rw [Nat.mul_one] at ht ⊢
    have h := congrArg (List.take d) ht
    rw [List.take_take, Nat.min_eq_left hd] at h
    rw [h]
    unfold cellsK
    rw [← List.map_take, List.take_range, Nat.min_eq_left hd]
theorem bytes_grown {w w' : World} {a : Option Addr} {n : Nat} {f : Nat → Int} {r : Option Nat} (h : Bytes w a n f) (hg : w.grownBy w' r) (hr : n ≠ 0 → ∀ x, a = some x → some x.block ≠ r) : Bytes w' a n f := by
  by_cases hn : n = 0
  · exact ⟨h.1, .inl hn⟩
  · exact ⟨h.1, h.2.imp id fun ⟨b, off, e, hc⟩ => ⟨b, off, e, fun i hi => hg.cell (hc i hi) (hr hn ⟨b, off, none⟩ e)⟩⟩
theorem row_grown {k : IntKind} {w w' : World} {a : Option Addr} {n : Nat} {f : Nat → Int} {r : Option Nat} (h : RowK k w a n f) (hg : w.grownBy w' r) (hr : n ≠ 0 → ∀ x, a = some x → some x.block ≠ r) : RowK k w' a n f := by
  by_cases hn : n = 0
  · exact ⟨h.1, .inl hn⟩
  · exact ⟨h.1, h.2.imp id fun ⟨b, off, e, hc⟩ => ⟨b, off, e, fun i hi => hg.cell (hc i hi) (hr hn ⟨b, off, none⟩ e)⟩⟩
theorem frozen_grown {w w' : World} {r : Option Nat} (hg : w.grownBy w' r) {p : Addr} (hp : p.block < w.heap.size) (hr : some p.block ≠ r) : w'.frozen? p = w.frozen? p := World.frozen?_of_block (hg.block _ hp hr)
theorem at_grown {w w' : World} {r : Option Nat} {g : Nat} {C : Array Value} (h : At w g C) (hg : w.grownBy w' r) (hr : some g ≠ r) : At w' g C := fun j v hv => hg.cell (h j v hv) hr
theorem there_below {w w' : World} {b o n B : Nat} (h : w.there b o n) (hb : Below B w w') (hB : b < B) : w'.there b o n := fun j hj => by
  obtain ⟨h1, h2⟩ := h j hj
  exact ⟨by rw [hb.cell (p := ⟨b, o + j, none⟩) hB]; exact h1, (hb.frozen (p := ⟨b, o + j, none⟩) hB).trans h2⟩
/-! ### Lists of one's own -/
/-- A list of bytes of one's own, or an empty one. -/
def MemOwn (B : Nat) (w : World) (v : Value) : Prop := ∃ a n c, v = .slice a n c ∧ (n = 0 ∨ ∃ g, a = some ⟨g, 0, none⟩ ∧ B ≤ g ∧ g < w.heap.size ∧ ∀ q, w.frozen? ⟨g, q, none⟩ = false)
theorem memOwn_of_own {B : Nat} {w : World} {e : TypeId} {a : Option Addr} {n c : Nat} {xs : List Value} (h : w.ownsRow B e 1 (.slice a n c) n xs) : MemOwn B w (.slice a n c) := by
  refine ⟨a, n, c, rfl, ?_⟩
  by_cases hn : n = 0
  · exact .inl hn
  · obtain ⟨g, cap', hv, hb, hl⟩ := h.form (by omega)
    simp only [Value.slice.injEq] at hv
    obtain ⟨rfl, -, rfl⟩ := hv
    exact .inr ⟨g, rfl, hb, hl, fun q => h.frozenAt q⟩
theorem MemOwn.grown {B : Nat} {w w' : World} {v : Value} {r : Option Nat} (h : MemOwn B w v) (hg : w.grownBy w' r) (hr : ∀ g n c, v = .slice (some ⟨g, 0, none⟩) n c → n ≠ 0 → some g ≠ r) : MemOwn B w' v := by
  obtain ⟨a, n, c, rfl, h⟩ := h
  refine ⟨a, n, c, rfl, ?_⟩
  by_cases hn : n = 0
  · exact .inl hn
  · rcases h with h | ⟨g, rfl, hb, hl, hf⟩
    · exact absurd h hn
    · have := hr g n c rfl hn
      exact .inr ⟨g, rfl, hb, Nat.lt_of_lt_of_le hl hg.size, fun q => (frozen_grown hg (p := ⟨g, q, none⟩) hl this).trans (hf q)⟩
/-- A state's places to go back to are a row of one's own, from block B on, apart from its other lists; these lie from B on, too. -/
structure Own (B : Nat) (w : World) (C : Array Value) (n : Nat) (f : Nat → Int) : Prop where
  row : ∃ a c, C[17]? = some (.slice a n c) ∧ w.ownsRow B 3 1 (.slice a n c) n (cellsK .i64 n f)
  apart : ∀ x n c, C[17]? = some (.slice (some x) n c) → AvoidsAt C 19 x.block ∧ AvoidsAt C 20 x.block ∧ AvoidsAt C 21 x.block
  mem : ∃ v, C[19]? = some v ∧ MemOwn B w v
  far : ∀ g, g < B → Avoids C g
/-- Blocks below are written to. -/
theorem Own.grown {B : Nat} {w w' : World} {C : Array Value} {n : Nat} {f : Nat → Int} (h : Own B w C n f) {b : Nat} (hb : b < B) (hg : w.grownBy w' (some b)) : Own B w' C n f := by
  obtain ⟨⟨a, c, e, h1⟩, h2, ⟨v, e3, h3⟩, h4⟩ := h
  refine ⟨⟨a, c, e, own_keeps h1 hg fun q hq e => ?_⟩, h2, ⟨v, e3, ?_⟩, h4⟩
  · have := (h1.lt q hq).1
    simp only [Option.some.injEq] at e; omega
  · obtain ⟨a, n, c, rfl, h⟩ := h3
    refine ⟨a, n, c, rfl, h.imp id fun ⟨g, e, hB, hl, hf⟩ => ⟨g, e, hB, Nat.lt_of_lt_of_le hl hg.size, fun q => (frozen_grown hg (p := ⟨g, q, none⟩) hl ?_).trans (hf q)⟩⟩
    simp only [ne_eq, Option.some.injEq]; omega
theorem MemOwn.mono {B B' : Nat} {w : World} {v : Value} (h : MemOwn B w v) (hB : B' ≤ B) : MemOwn B' w v := by
  obtain ⟨a, n, c, e, h⟩ := h
  exact ⟨a, n, c, e, h.imp id fun ⟨g, e, hb, r⟩ => ⟨g, e, Nat.le_trans hB hb, r⟩⟩
theorem Own.mono {B B' : Nat} {w : World} {C : Array Value} {n : Nat} {f : Nat → Int} (h : Own B w C n f) (hB : B' ≤ B) : Own B' w C n f :=
  ⟨h.row.imp fun a ⟨c, e, h⟩ => ⟨c, e, own_base h hB⟩, h.apart, h.mem.imp fun v ⟨e, h⟩ => ⟨e, h.mono hB⟩, fun g hg => h.far g (Nat.lt_of_lt_of_le hg hB)⟩
theorem slice_cell {C : Array Value} {w : World} {s : St} (h : IsSt w (.agg C) s) {a1 a2 a3 a4 : Option Addr} {c1 c2 c3 c4 n1 n2 n3 n4 : Nat} (e1 : C[17]? = some (.slice a1 n1 c1)) (e2 : C[19]? = some (.slice a2 n2 c2)) (e3 : C[20]? = some (.slice a3 n3 c3)) (e4 : C[21]? = some (.slice a4 n4 c4)) :
    Value.agg C = stateV s.at_ s.r a1 s.bn c1 s.wt a2 s.mn c2 a3 s.inn c3 a4 s.on_ c4 s.en s.cd s.ft := by
  obtain ⟨ba, bc, ma, mc, ia, ic, oa, oc, e, -⟩ := h
  have eC := e
  simp only [Value.agg.injEq] at eC
  rw [eC] at e1 e2 e3 e4
  simp at e1 e2 e3 e4
  obtain ⟨rfl, rfl, rfl⟩ := e1
  obtain ⟨rfl, rfl, rfl⟩ := e2
  obtain ⟨rfl, rfl, rfl⟩ := e3
  obtain ⟨rfl, rfl, rfl⟩ := e4
  exact e
/-- Four lists of one's own, made one behind the other. -/
theorem Own.mk4 {B N : Nat} {w : World} {C : Array Value} {s : St} (h : IsSt w (.agg C) s) {a1 a2 a3 a4 : Option Addr} {c1 c2 c3 c4 : Nat} (e1 : C[17]? = some (.slice a1 s.bn c1)) (e2 : C[19]? = some (.slice a2 s.mn c2)) (e3 : C[20]? = some (.slice a3 s.inn c3)) (e4 : C[21]? = some (.slice a4 s.on_ c4))
    (hB : B ≤ N) (h1 : w.ownsRow B 3 1 (.slice a1 s.bn c1) s.bn (cellsK .i64 s.bn s.bf)) (l1 : ∀ x, a1 = some x → x.block < N) (h2 : MemOwn B w (.slice a2 s.mn c2)) (l2 : ∀ x, a2 = some x → N ≤ x.block) (l3 : ∀ x, a3 = some x → N ≤ x.block) (l4 : ∀ x, a4 = some x → N ≤ x.block) : Own B w C s.bn s.bf := by
  refine ⟨⟨a1, c1, e1, h1⟩, fun x n c e => ?_, ⟨_, e2, h2⟩, fun g hg => ?_⟩
  · rw [e1] at e
    simp only [Option.some.injEq, Value.slice.injEq] at e
    have hx := l1 x e.1
    refine ⟨fun y n c e hn => ?_, fun y n c e hn => ?_, fun y n c e hn => ?_⟩
    · rw [e2] at e; simp only [Option.some.injEq, Value.slice.injEq] at e; have := l2 y e.1; omega
    · rw [e3] at e; simp only [Option.some.injEq, Value.slice.injEq] at e; have := l3 y e.1; omega
    · rw [e4] at e; simp only [Option.some.injEq, Value.slice.injEq] at e; have := l4 y e.1; omega
  · refine avoids_of (slice_cell h e1 e2 e3 e4) (fun x e hn => ?_) (fun x e hn => ?_) (fun x e hn => ?_) (fun x e hn => ?_)
    · have := own_blk h1 x e; omega
    · have := l2 x e; omega
    · have := l3 x e; omega
    · have := l4 x e; omega
/-- A cell of the state in the block is written, whatever it was made of. -/
theorem Boxed.fill {w W : World} {b r : Nat} {C0 C : Array Value} {s s' : St} (h : Boxed w W b r C0 C s) (k : Nat) (hk : k < 25) (v : Value) (hv : ∀ g, g = b ∨ g = r → Off v g)
    (hs : IsSt W (.agg (C.setIfInBounds k v)) s') : Boxed w (W.setCell ⟨b, k, none⟩ v) b r (C.setIfInBounds k v) (C.setIfInBounds k v) s' := by
  have hA : Avoids (C.setIfInBounds k v) b := h.avb.put (hv b (.inl rfl)) k
  exact ⟨h.bel.setCell (p := ⟨b, k, none⟩) h.hb.1 v, by simpa using h.hb, h.at_.set k (by rw [(st_shape h.st).1]; exact hk) v, fun q => by simpa using h.fz q, size_there (w' := W) h.room _ _, hs.set hA k v,
    Onward.refl _ _ _, hA, h.avr.put (hv r (.inr rfl)) k⟩
theorem get_put {C : Array Value} {k : Nat} {v : Value} (h : k < C.size) : (C.setIfInBounds k v)[k]? = some v := by rw [Array.getElem?_setIfInBounds, if_pos rfl, if_pos h]
theorem get_ne {C : Array Value} {k j : Nat} {v : Value} (h : k ≠ j) : (C.setIfInBounds k v)[j]? = C[j]? := by rw [Array.getElem?_setIfInBounds, if_neg h]
set_option maxRecDepth 100000 in
set_option maxHeartbeats 1000000 in
theorem clone_own_b (w : World) (a : Option Addr) (n c : Nat) (f : Nat → Int) (hn : n ≤ 100000) (hh : Head a n c) (hR : Bytes w a n f) :
    Calls Tryd.prog 33 #[.slice a n c] w fun e w' => ∃ a' c', e = .returned (.slice a' n c') ∧ w'.ownsRow w.heap.size 5 1 (.slice a' n c') n (cellsK .u8 n f) ∧ Below w.heap.size w w' := by
  have q : ∀ (w : World) (a : Option Addr) (n c n' c' : Nat), (binOp .eql 23 (.slice a n c) (.slice none n' c')).run Tryd.prog w = .ok (.bool a.isNone) w := fun w a n c n' c' => Lib.run_eql_slice_nil w _ _ a n c n' c' Tryd.underlying23
  have HR : Hid (RowK .u8 w a n f) := bytes_rowK' hR
  have HH : Hid (Head a n c) := hh
  clear hR hh
  rcases a with _ | a
  · obtain ⟨rfl, rfl⟩ := head_nil HH.out rfl
    go_enter Tryd.func33, Tryd.ntmps33
    go_wp2
    go_ret
    exact ⟨none, 0, rfl, own_none, Below.refl _ _⟩
  · go_enter Tryd.func33, Tryd.ntmps33
    go_wp2_with (at_builtin; refine wpList_append_fresh w rfl (.tmp 5) (.tmp 6) 23 rfl 5 (.int .u8 0) 1 Tryd.underlying23 slB rfl rfl (some a) n c (cellsK .u8 n f) rfl (cellsK_len _ _ _) (head_nil HH.out) (row_cells HR.out) (cellsK_one _ _ _) (by unfold maxLen; omega) (by omega) ?_; intro a1 c1 w1 own1 hb1)
    go_ret
    exact ⟨a1, c1, rfl, own1, hb1⟩
set_option maxRecDepth 100000 in
set_option maxHeartbeats 1000000 in
theorem clone_own_i (w : World) (a : Option Addr) (n c : Nat) (f : Nat → Int) (hn : n ≤ 100000) (hh : Head a n c) (hR : RowK .i64 w a n f) :
    Calls Tryd.prog 45 #[.slice a n c] w fun e w' => ∃ a' c', e = .returned (.slice a' n c') ∧ w'.ownsRow w.heap.size 3 1 (.slice a' n c') n (cellsK .i64 n f) ∧ Below w.heap.size w w' := by
  have q : ∀ (w : World) (a : Option Addr) (n c n' c' : Nat), (binOp .eql 33 (.slice a n c) (.slice none n' c')).run Tryd.prog w = .ok (.bool a.isNone) w := fun w a n c n' c' => Lib.run_eql_slice_nil w _ _ a n c n' c' Tryd.underlying33
  have HR : Hid (RowK .i64 w a n f) := hR
  have HH : Hid (Head a n c) := hh
  clear hR hh
  rcases a with _ | a
  · obtain ⟨rfl, rfl⟩ := head_nil HH.out rfl
    go_enter Tryd.func45, Tryd.ntmps45
    go_wp2
    go_ret
    exact ⟨none, 0, rfl, own_none, Below.refl _ _⟩
  · go_enter Tryd.func45, Tryd.ntmps45
    go_wp2_with (at_builtin; refine wpList_append_fresh w rfl (.tmp 5) (.tmp 6) 33 rfl 3 (.int .i64 0) 8 Tryd.underlying33 slI rfl rfl (some a) n c (cellsK .i64 n f) rfl (cellsK_len _ _ _) (head_nil HH.out) (row_cells HR.out) (cellsK_one _ _ _) (by unfold maxLen; omega) (by omega) ?_; intro a1 c1 w1 own1 hb1)
    go_ret
    exact ⟨a1, c1, rfl, own1, hb1⟩
open Go.ChangeShapes Go.WideShapes Go.ChangeAt Go.RowKit
set_option linter.unusedVariables false
set_option linter.unusedSimpArgs false
set_option maxRecDepth 100000 in
set_option maxHeartbeats 2000000 in
theorem own_post {w : World} {C : Array Value} {s : St} (h : IsSt w (.agg C) s) (hl : s.bn ≤ 100000 ∧ s.mn ≤ 100000 ∧ s.inn ≤ 100000 ∧ s.on_ ≤ 100000) :
    Calls Tryd.prog 28 #[.agg C] w fun e w' => ∃ C', e = .returned (.agg C') ∧ IsSt w' (.agg C') s ∧ Own w.heap.size w' C' s.bn s.bf ∧ Below w.heap.size w w' := by
  have B0 : Hid (Boxed w ((w.alloc (.cells C 37)).alloc (.cells noSt 37)) w.heap.size (w.heap.size + 1) C C s) := Boxed.new h _ _
  clear h
  go_enter Tryd.func28, Tryd.ntmps28
  go_upto_region 1 with fail
  rw [noSt_def]
  generalize (w.alloc (.cells C 37)).alloc (.cells noSt 37) = w0 at B0 ⊢
  obtain ⟨ba, bc, ma, mc, ia, ic, oa, oc, ⟨x17, -⟩, ⟨hb, hbr⟩, -⟩ := list_st B0.out
  have CL : Hid (Calls Tryd.prog 45 #[.slice ba s.bn bc] w0 _) := clone_own_i w0 ba s.bn bc s.bf hl.1 hb hbr
  have WB : Hid (∀ i, (Lit.int .i64 (s.bf i)).wf = true) := hbr.1
  have f17 : w0.frozen? ⟨w.heap.size, 17, none⟩ = false := B0.out.fz 17
  clear hb hbr
  go_upto_region 2 with (go_at_call 45; refine CL.out.mono ?_; rintro e w1 ⟨a1, c1, rfl, o1, b1⟩; have x17' := cell_later' x17 b1; have f17' : w1.frozen? ⟨w.heap.size, 17, none⟩ = false := (B0.out.later b1).fz 17)
  have E25 := (st_shape B0.out.st).1
  have B2 : Hid (Boxed w (w1.setCell ⟨w.heap.size, 17, none⟩ (.slice a1 s.bn c1)) w.heap.size (w.heap.size + 1) (C.setIfInBounds 17 (.slice a1 s.bn c1)) (C.setIfInBounds 17 (.slice a1 s.bn c1)) s) :=
    (B0.out.later b1).fill 17 (by omega) _ (fun g hg => off_new (own_blk o1) (by have := B0.out.hb; have := B0.out.bel.size; omega)) (put_bk (B0.out.later b1).st a1 s.bn c1 s.bf (own_ints o1 WB.out))
  have D1 : Hid ((C.setIfInBounds 17 (.slice a1 s.bn c1))[17]? = some (.slice a1 s.bn c1)) := get_put (by omega)
  have g1 : w1.grownBy (w1.setCell ⟨w.heap.size, 17, none⟩ (.slice a1 s.bn c1)) (some w.heap.size) := grown_set _ _ _ _
  have l0 : w.heap.size + 2 ≤ w0.heap.size := by have := B0.out.hb; omega
  have O1 : Hid ((w1.setCell ⟨w.heap.size, 17, none⟩ (.slice a1 s.bn c1)).ownsRow (w.heap.size + 2) 3 1 (.slice a1 s.bn c1) s.bn (cellsK .i64 s.bn s.bf)) :=
    own_keeps (own_base o1 l0) g1 (fun q hq e => by have := (o1.lt q hq).1; simp only [Option.some.injEq] at e; omega)
  obtain ⟨N, eN⟩ : ∃ N, (w1.setCell ⟨w.heap.size, 17, none⟩ (.slice a1 s.bn c1)).heap.size = N := ⟨_, rfl⟩
  have L1 : Hid (∀ x, a1 = some x → x.block < N) := fun x e => by
    have := (O1.out.lt x.block (by rw [e]; rfl)).2
    omega
  have LN : Hid (w.heap.size + 2 ≤ N) := by
    have e : N = w1.heap.size := by rw [← eN]; simp
    have := b1.size
    show _ ≤ _
    omega
  have SN : Hid (N ≤ (w1.setCell ⟨w.heap.size, 17, none⟩ (.slice a1 s.bn c1)).heap.size) := by rw [eN]; exact Nat.le_refl _
  clear x17 f17 x17' f17' CL B0 o1 b1 WB g1 l0 eN E25
  generalize w1.setCell ⟨w.heap.size, 17, none⟩ (.slice a1 s.bn c1) = w2 at B2 O1 SN ⊢
  generalize C.setIfInBounds 17 (.slice a1 s.bn c1) = C2 at B2 D1
  clear w1 w0
  obtain ⟨-, -, ma, mc, -, -, -, -, ⟨-, x19, -⟩, -, ⟨hm, hmr⟩, -⟩ := list_st B2.out
  have CL : Hid (Calls Tryd.prog 33 #[.slice ma s.mn mc] w2 _) := clone_own_b w2 ma s.mn mc s.mf hl.2.1 hm hmr
  have WB : Hid (∀ i, 0 ≤ s.mf i ∧ s.mf i < 256) := hmr.1
  have f19 : w2.frozen? ⟨w.heap.size, 19, none⟩ = false := B2.out.fz 19
  clear hm hmr
  go_upto_region 3 with (go_at_call 33; refine CL.out.mono ?_; rintro e w3 ⟨a2, c2, rfl, o2, b3⟩; have x19' := cell_later' x19 b3; have f19' : w3.frozen? ⟨w.heap.size, 19, none⟩ = false := (B2.out.later b3).fz 19)
  have E25 := (st_shape B2.out.st).1
  have l0 : w.heap.size + 2 ≤ w2.heap.size := by have := B2.out.hb; omega
  have B4 : Hid (Boxed w (w3.setCell ⟨w.heap.size, 19, none⟩ (.slice a2 s.mn c2)) w.heap.size (w.heap.size + 1) (C2.setIfInBounds 19 (.slice a2 s.mn c2)) (C2.setIfInBounds 19 (.slice a2 s.mn c2)) s) :=
    (B2.out.later b3).fill 19 (by omega) _ (fun g hg => off_new (own_blk o2) (by omega)) (put_mem (B2.out.later b3).st a2 s.mn c2 s.mf (own_bytes o2 WB.out))
  have D2 : Hid ((C2.setIfInBounds 19 (.slice a2 s.mn c2))[17]? = some (.slice a1 s.bn c1)) := (get_ne (by omega)).trans D1.out
  have D3 : Hid ((C2.setIfInBounds 19 (.slice a2 s.mn c2))[19]? = some (.slice a2 s.mn c2)) := get_put (by omega)
  have g3 : w2.grownBy (w3.setCell ⟨w.heap.size, 19, none⟩ (.slice a2 s.mn c2)) (some w.heap.size) := grown_trans (grown_below b3 _) (grown_set _ _ _ _)
  have O2 : Hid ((w3.setCell ⟨w.heap.size, 19, none⟩ (.slice a2 s.mn c2)).ownsRow (w.heap.size + 2) 3 1 (.slice a1 s.bn c1) s.bn (cellsK .i64 s.bn s.bf)) :=
    own_keeps O1.out g3 (fun q hq e => by have := (O1.out.lt q hq).1; simp only [Option.some.injEq] at e; omega)
  have M2 : Hid (MemOwn (w.heap.size + 2) (w3.setCell ⟨w.heap.size, 19, none⟩ (.slice a2 s.mn c2)) (.slice a2 s.mn c2)) :=
    (memOwn_of_own (own_base o2 l0)).grown (grown_set _ _ _ _) (fun g n c e hn => by
      simp only [Value.slice.injEq] at e
      have := own_blk o2 _ e.1
      simp only [ne_eq, Option.some.injEq]; simp only [] at this; omega)
  have L2 : Hid (∀ x, a2 = some x → N ≤ x.block) := fun x e => by have := own_blk o2 x e; have := SN.out; omega
  have SN4 : Hid (N ≤ (w3.setCell ⟨w.heap.size, 19, none⟩ (.slice a2 s.mn c2)).heap.size) := Nat.le_trans SN.out (by have := b3.size; simpa using this)
  clear x19 f19 x19' f19' CL B2 o2 b3 WB g3 l0 E25 D1 O1 SN
  generalize w3.setCell ⟨w.heap.size, 19, none⟩ (.slice a2 s.mn c2) = w4 at B4 O2 M2 SN4 ⊢
  generalize C2.setIfInBounds 19 (.slice a2 s.mn c2) = C4 at B4 D2 D3
  clear w3 w2
  obtain ⟨-, -, -, -, ia, ic, -, -, ⟨-, -, x20, -⟩, -, -, ⟨hi, hir⟩, -⟩ := list_st B4.out
  have CL : Hid (Calls Tryd.prog 33 #[.slice ia s.inn ic] w4 _) := clone_own_b w4 ia s.inn ic s.inf hl.2.2.1 hi hir
  have WB : Hid (∀ i, 0 ≤ s.inf i ∧ s.inf i < 256) := hir.1
  have f20 : w4.frozen? ⟨w.heap.size, 20, none⟩ = false := B4.out.fz 20
  clear hi hir
  go_upto_region 4 with (go_at_call 33; refine CL.out.mono ?_; rintro e w5 ⟨a3, c3, rfl, o3, b5⟩; have x20' := cell_later' x20 b5; have f20' : w5.frozen? ⟨w.heap.size, 20, none⟩ = false := (B4.out.later b5).fz 20)
  have E25 := (st_shape B4.out.st).1
  have l0 : w.heap.size + 2 ≤ w4.heap.size := by have := B4.out.hb; omega
  have B6 : Hid (Boxed w (w5.setCell ⟨w.heap.size, 20, none⟩ (.slice a3 s.inn c3)) w.heap.size (w.heap.size + 1) (C4.setIfInBounds 20 (.slice a3 s.inn c3)) (C4.setIfInBounds 20 (.slice a3 s.inn c3)) s) :=
    (B4.out.later b5).fill 20 (by omega) _ (fun g hg => off_new (own_blk o3) (by omega)) (put_in (B4.out.later b5).st a3 s.inn c3 s.inf (own_bytes o3 WB.out))
  have D4 : Hid ((C4.setIfInBounds 20 (.slice a3 s.inn c3))[17]? = some (.slice a1 s.bn c1)) := (get_ne (by omega)).trans D2.out
  have D5 : Hid ((C4.setIfInBounds 20 (.slice a3 s.inn c3))[19]? = some (.slice a2 s.mn c2)) := (get_ne (by omega)).trans D3.out
  have D6 : Hid ((C4.setIfInBounds 20 (.slice a3 s.inn c3))[20]? = some (.slice a3 s.inn c3)) := get_put (by omega)
  have g5 : w4.grownBy (w5.setCell ⟨w.heap.size, 20, none⟩ (.slice a3 s.inn c3)) (some w.heap.size) := grown_trans (grown_below b5 _) (grown_set _ _ _ _)
  have O4 : Hid ((w5.setCell ⟨w.heap.size, 20, none⟩ (.slice a3 s.inn c3)).ownsRow (w.heap.size + 2) 3 1 (.slice a1 s.bn c1) s.bn (cellsK .i64 s.bn s.bf)) :=
    own_keeps O2.out g5 (fun q hq e => by have := (O2.out.lt q hq).1; simp only [Option.some.injEq] at e; omega)
  have M4 : Hid (MemOwn (w.heap.size + 2) (w5.setCell ⟨w.heap.size, 20, none⟩ (.slice a3 s.inn c3)) (.slice a2 s.mn c2)) :=
    M2.out.grown g5 (fun g n c e hn => by
      simp only [Value.slice.injEq] at e
      have h1 := L2.out _ e.1
      have h2 := LN.out
      simp only [ne_eq, Option.some.injEq]; simp only [] at h1; omega)
  have L3 : Hid (∀ x, a3 = some x → N ≤ x.block) := fun x e => by have := own_blk o3 x e; have := SN4.out; omega
  have SN6 : Hid (N ≤ (w5.setCell ⟨w.heap.size, 20, none⟩ (.slice a3 s.inn c3)).heap.size) := Nat.le_trans SN4.out (by have := b5.size; simpa using this)
  clear x20 f20 x20' f20' CL B4 o3 b5 WB g5 l0 E25 D2 D3 O2 M2 SN4
  generalize w5.setCell ⟨w.heap.size, 20, none⟩ (.slice a3 s.inn c3) = w6 at B6 O4 M4 SN6 ⊢
  generalize C4.setIfInBounds 20 (.slice a3 s.inn c3) = C6 at B6 D4 D5 D6
  clear w5 w4
  obtain ⟨-, -, -, -, -, -, oa, oc, ⟨-, -, -, x21⟩, -, -, -, ho, hor⟩ := list_st B6.out
  have CL : Hid (Calls Tryd.prog 33 #[.slice oa s.on_ oc] w6 _) := clone_own_b w6 oa s.on_ oc s.of_ hl.2.2.2 ho hor
  have WB : Hid (∀ i, 0 ≤ s.of_ i ∧ s.of_ i < 256) := hor.1
  have f21 : w6.frozen? ⟨w.heap.size, 21, none⟩ = false := B6.out.fz 21
  clear ho hor
  go_upto_region 5 with (go_at_call 33; refine CL.out.mono ?_; rintro e w7 ⟨a4, c4, rfl, o4, b7⟩; have x21' := cell_later' x21 b7; have f21' : w7.frozen? ⟨w.heap.size, 21, none⟩ = false := (B6.out.later b7).fz 21)
  have E25 := (st_shape B6.out.st).1
  have l0 : w.heap.size + 2 ≤ w6.heap.size := by have := B6.out.hb; omega
  have B8 : Hid (Boxed w (w7.setCell ⟨w.heap.size, 21, none⟩ (.slice a4 s.on_ c4)) w.heap.size (w.heap.size + 1) (C6.setIfInBounds 21 (.slice a4 s.on_ c4)) (C6.setIfInBounds 21 (.slice a4 s.on_ c4)) s) :=
    (B6.out.later b7).fill 21 (by omega) _ (fun g hg => off_new (own_blk o4) (by omega)) (put_out (B6.out.later b7).st a4 s.on_ c4 s.of_ (own_bytes o4 WB.out))
  have D7 : Hid ((C6.setIfInBounds 21 (.slice a4 s.on_ c4))[17]? = some (.slice a1 s.bn c1)) := (get_ne (by omega)).trans D4.out
  have D8 : Hid ((C6.setIfInBounds 21 (.slice a4 s.on_ c4))[19]? = some (.slice a2 s.mn c2)) := (get_ne (by omega)).trans D5.out
  have D9 : Hid ((C6.setIfInBounds 21 (.slice a4 s.on_ c4))[20]? = some (.slice a3 s.inn c3)) := (get_ne (by omega)).trans D6.out
  have DA : Hid ((C6.setIfInBounds 21 (.slice a4 s.on_ c4))[21]? = some (.slice a4 s.on_ c4)) := get_put (by omega)
  have g7 : w6.grownBy (w7.setCell ⟨w.heap.size, 21, none⟩ (.slice a4 s.on_ c4)) (some w.heap.size) := grown_trans (grown_below b7 _) (grown_set _ _ _ _)
  have O6 : Hid ((w7.setCell ⟨w.heap.size, 21, none⟩ (.slice a4 s.on_ c4)).ownsRow (w.heap.size + 2) 3 1 (.slice a1 s.bn c1) s.bn (cellsK .i64 s.bn s.bf)) :=
    own_keeps O4.out g7 (fun q hq e => by have := (O4.out.lt q hq).1; simp only [Option.some.injEq] at e; omega)
  have M6 : Hid (MemOwn (w.heap.size + 2) (w7.setCell ⟨w.heap.size, 21, none⟩ (.slice a4 s.on_ c4)) (.slice a2 s.mn c2)) :=
    M4.out.grown g7 (fun g n c e hn => by
      simp only [Value.slice.injEq] at e
      have h1 := L2.out _ e.1
      have h2 := LN.out
      simp only [ne_eq, Option.some.injEq]; simp only [] at h1; omega)
  have L4 : Hid (∀ x, a4 = some x → N ≤ x.block) := fun x e => by have := own_blk o4 x e; have := SN6.out; omega
  clear x21 f21 x21' f21' CL B6 o4 b7 WB g7 l0 E25 D4 D5 D6 O4 M4 SN6
  generalize w7.setCell ⟨w.heap.size, 21, none⟩ (.slice a4 s.on_ c4) = w8 at B8 O6 M6 ⊢
  generalize C6.setIfInBounds 21 (.slice a4 s.on_ c4) = C8 at B8 D7 D8 D9 DA
  clear w7 w6
  have OW : Hid (Own (w.heap.size + 2) w8 C8 s.bn s.bf) := Own.mk4 B8.out.st D7.out D8.out D9.out DA.out LN.out O6.out L1.out M6.out L2.out L3.out L4.out
  have TT : Hid (Told w (w8.setCells (w.heap.size + 1) 0 C8.toList) (w.heap.size + 1) C8 C8 s) := Told.same B8.out
  have OX : Hid (Own w.heap.size (w8.setCells (w.heap.size + 1) 0 C8.toList) C8 s.bn s.bf) := (OW.out.grown (b := w.heap.size + 1) (by omega) (grown_setCells _ _ _ _)).mono (by omega)
  go_wp2_with (first
    | ((with_reducible show wpList _ _ _ (Oper.mk _ (Op.load _ _) _ _ _ _ :: _) _ _); refine wpList_load_if (by rfl) 37 (.tmp 1) rfl w.heap.size 0 rfl C8.toList _ (at_range B8.out.at_) Tryd.underlying37 rfl (st_info B8.out.st).2 ?_)
    | ((with_reducible show wpList _ _ _ (Oper.mk _ (Op.store _ _ _) _ _ _ _ :: _) _ _); refine wpList_store_room (w := w) rfl (.tmp 2) (.tmp 21) rfl (w.heap.size + 1) C8 rfl rfl B8.out.st B8.out.room ?_))
  exact bodyPost_ret (v := .agg C8) (results_st rfl _ (w.heap.size + 1) (by first | rfl | simp) TT.out.st _ TT.out.at_) rfl ⟨C8, rfl, TT.out.st, OX.out, TT.out.bel⟩
end Go.Proofs.YtnpejnjigaalfaaDoor
