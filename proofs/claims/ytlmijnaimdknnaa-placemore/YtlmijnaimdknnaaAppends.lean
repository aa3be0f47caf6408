/- 'append(buf, xs...)', buf the call's own, xs whatever: nil, empty or not. -/
import Derived.Test.YtlmijnaimdknnaaFrame
import Derived.Deep.AppendLies
import Derived.Laws.OwnMore
namespace Go.Proofs.Ytlmijnaimdknnaa
open Go.ChangeShapes Go.WideShapes Go.ChangeAt Go.RowKit
set_option linter.unusedVariables false

theorem own_form {w : World} {base : Nat} {e : TypeId} {size : Nat} {v : Value} {n : Nat} {xs : List Value} (h : w.ownsRow base e size v n xs) : ∃ a cap, v = .slice a n cap := by
  rcases h.2 with ⟨e, h0⟩ | ⟨g, cap, cur, hv, _⟩
  · subst h0; exact ⟨none, 0, e⟩
  · exact ⟨some ⟨g, 0, none⟩, cap, hv⟩
theorem run_append_all {P : Program} (w : World) (t ty : TypeId) (base : Nat) (e : TypeId) (i : TypeInfo) (z : Value) (size bytes : Nat) (ht : P.underlying t = some (.slice e)) (hi : P.info? e = some i) (hz : i.zero = some z)
    (hsize : i.size = size) (hby : i.bytes = bytes) (hzs : z.cells.size = size) (hsz : 0 < size)
    (v : Value) (n : Nat) (xs : List Value) (hown : w.ownsRow base e size v n xs)
    (sp : Option Addr) (m c : Nat) (news : List Value) (hl : news.length = m * size) (hnil : sp = none → m = 0 ∧ c = 0) (hnews : ∀ ad, sp = some ad → ∀ j u, news[j]? = some u → w.cell? (ad.add j) = some u) (h1 : ∀ u ∈ news, u.oneCell' = true)
    (h63 : n + m ≤ maxLen) (hbytes : (n + m) * bytes ≤ 140737488355328) (hbase : base ≤ w.heap.size) :
    ∃ a' cap' w', (Builtin.append_ #[t, t] ty #[v, .slice sp m c]).run P w = .ok (.slice a' (n + m) cap') w' ∧ w'.ownsRow base e size (.slice a' (n + m) cap') (n + m) (xs ++ news) ∧ w.grownBy w' v.ownBlock := by
  cases sp with
  | none =>
    obtain ⟨rfl, rfl⟩ := hnil rfl
    obtain rfl : news = [] := List.eq_nil_of_length_eq_zero (by simpa using hl)
    obtain ⟨a, cap, rfl⟩ := own_form hown
    exact ⟨a, cap, w, run_append_owned_none (P := P) (w := w) base t ty e i size ht hi _ n xs hown, by simpa using hown, World.grownBy.refl w _⟩
  | some ad =>
    obtain ⟨v', w', hr, h2, h3, _, h5⟩ := run_append_own_at (P := P) w base t ty e i z size bytes ht hi hz hsize hby hzs hsz v n xs hown ad m c news hl (hnews ad rfl) h1 h63 hbytes hbase
    obtain ⟨a, cap, rfl⟩ := own_form h2
    exact ⟨a, cap, w', hr, h2, h3⟩
/-- At an operation. -/
theorem wp_append_all {P : Program} (w : World) {o : Oper} {a : Act} {K : Act → World → Prop} {Q : Exit → Act → World → Prop} (s x : Operand) (t : TypeId)
    (ho : o.op = .call { callee := .builtin .append, args := #[s, x], argTypes := #[t, t] })
    (base : Nat) (e : TypeId) (i : TypeInfo) (z : Value) (size bytes : Nat) (ht : P.underlying t = some (.slice e)) (hi : P.info? e = some i) (hz : i.zero = some z)
    (hsize : i.size = size) (hby : i.bytes = bytes) (hzs : z.cells.size = size) (hsz : 0 < size)
    (v : Value) (n : Nat) (xs : List Value) (hs : a.eval s = v) (hown : w.ownsRow base e size v n xs)
    (sp : Option Addr) (m c : Nat) (news : List Value) (hx : a.eval x = .slice sp m c) (hl : news.length = m * size) (hnil : sp = none → m = 0 ∧ c = 0) (hnews : ∀ ad, sp = some ad → ∀ j u, news[j]? = some u → w.cell? (ad.add j) = some u) (h1 : ∀ u ∈ news, u.oneCell' = true)
    (h63 : n + m ≤ maxLen) (hbytes : (n + m) * bytes ≤ 140737488355328) (hbase : base ≤ w.heap.size)
    (h : ∀ a' cap' w', w'.ownsRow base e size (.slice a' (n + m) cap') (n + m) (xs ++ news) → w.grownBy w' v.ownBlock → K (a.put o.dst (.slice a' (n + m) cap')) w') : o.wp P a w K Q := by
  obtain ⟨a', cap', w', hr, h2, h3⟩ := run_append_all (P := P) w t o.type base e i z size bytes ht hi hz hsize hby hzs hsz v n xs hown sp m c news hl hnil hnews h1 h63 hbytes hbase
  unfold Oper.wp execOp
  simp only [ho, resolve, invoke, builtin, Sem.run_bind, Sem.run_pure, Result.andThen_ok, List.map_toArray, List.map_cons, List.map_nil, hs, hx, hr]
  exact h a' cap' w' h2 h3
/-- At a plain region's list. -/
theorem wpList_append_all {P : Program} (w : World) {ops : Array Oper} {rest : List Oper} {o : Oper} {a : Act} {Q : Exit → Act → World → Prop} (hgd : o.guard = none) (s x : Operand) (t : TypeId)
    (ho : o.op = .call { callee := .builtin .append, args := #[s, x], argTypes := #[t, t] })
    (base : Nat) (e : TypeId) (i : TypeInfo) (z : Value) (size bytes : Nat) (ht : P.underlying t = some (.slice e)) (hi : P.info? e = some i) (hz : i.zero = some z)
    (hsize : i.size = size) (hby : i.bytes = bytes) (hzs : z.cells.size = size) (hsz : 0 < size)
    (v : Value) (n : Nat) (xs : List Value) (hs : a.eval s = v) (hown : w.ownsRow base e size v n xs)
    (sp : Option Addr) (m c : Nat) (news : List Value) (hx : a.eval x = .slice sp m c) (hl : news.length = m * size) (hnil : sp = none → m = 0 ∧ c = 0) (hnews : ∀ ad, sp = some ad → ∀ j u, news[j]? = some u → w.cell? (ad.add j) = some u) (h1 : ∀ u ∈ news, u.oneCell' = true)
    (h63 : n + m ≤ maxLen) (hbytes : (n + m) * bytes ≤ 140737488355328) (hbase : base ≤ w.heap.size)
    (h : ∀ a' cap' w', w'.ownsRow base e size (.slice a' (n + m) cap') (n + m) (xs ++ news) → w.grownBy w' v.ownBlock → wpList P ops Q rest (a.put o.dst (.slice a' (n + m) cap')) w') : wpList P ops Q (o :: rest) a w :=
  wpList_plain hgd fun _ hK => wp_append_all w s x t ho base e i z size bytes ht hi hz hsize hby hzs hsz v n xs hs hown sp m c news hx hl hnil hnews h1 h63 hbytes hbase fun a' cap' w' h2 h3 => hK _ _ (h a' cap' w' h2 h3)
/-- At a step of a region that draws its order. -/
theorem step_append_all {P : Program} (w : World) {ops : Array Oper} {o : Oper} {a : Act} {K : Act → World → Prop} {Q : Exit → Act → World → Prop} {E : Prop} (hgd : o.guard = none) (s x : Operand) (t : TypeId)
    (ho : o.op = .call { callee := .builtin .append, args := #[s, x], argTypes := #[t, t] })
    (base : Nat) (e : TypeId) (i : TypeInfo) (z : Value) (size bytes : Nat) (ht : P.underlying t = some (.slice e)) (hi : P.info? e = some i) (hz : i.zero = some z)
    (hsize : i.size = size) (hby : i.bytes = bytes) (hzs : z.cells.size = size) (hsz : 0 < size)
    (v : Value) (n : Nat) (xs : List Value) (hs : a.eval s = v) (hown : w.ownsRow base e size v n xs)
    (sp : Option Addr) (m c : Nat) (news : List Value) (hx : a.eval x = .slice sp m c) (hl : news.length = m * size) (hnil : sp = none → m = 0 ∧ c = 0) (hnews : ∀ ad, sp = some ad → ∀ j u, news[j]? = some u → w.cell? (ad.add j) = some u) (h1 : ∀ u ∈ news, u.oneCell' = true)
    (h63 : n + m ≤ maxLen) (hbytes : (n + m) * bytes ≤ 140737488355328) (hbase : base ≤ w.heap.size)
    (h : ∀ a' cap' w', w'.ownsRow base e size (.slice a' (n + m) cap') (n + m) (xs ++ news) → w.grownBy w' v.ownBlock → K (a.put o.dst (.slice a' (n + m) cap')) w') :
    if Region.wanted o (yielded ops a.tmps) = true then Oper.wp P o a w K Q else E := by
  have hw : Region.wanted o (yielded ops a.tmps) = true := by simp [Region.wanted, hgd]
  rw [if_pos hw]
  exact wp_append_all w s x t ho base e i z size bytes ht hi hz hsize hby hzs hsz v n xs hs hown sp m c news hx hl hnil hnews h1 h63 hbytes hbase h

/-- A slice's head: no more elements than there is room; nil has no room. -/
def Head (a : Option Addr) (n cap : Nat) : Prop := n ≤ cap ∧ (a = none → cap = 0)
/-- The cells of a list of numbers. -/
def cellsK (k : IntKind) (n : Nat) (f : Nat → Int) : List Value := (List.range n).map fun j => .int k (f j)
theorem cellsK_len (k : IntKind) (n : Nat) (f : Nat → Int) : (cellsK k n f).length = n := by simp [cellsK]
theorem cellsK_one (k : IntKind) (n : Nat) (f : Nat → Int) : ∀ u ∈ cellsK k n f, u.oneCell' = true := by simp [cellsK, Value.oneCell']
theorem cellsK_get (k : IntKind) (n : Nat) (f : Nat → Int) (j : Nat) (h : j < n) : (cellsK k n f)[j]? = some (.int k (f j)) := by simp [cellsK, h]
theorem cellsK_add (k : IntKind) (n : Nat) (f : Nat → Int) (m : Nat) (g : Nat → Int) : cellsK k n f ++ cellsK k m g = cellsK k (n + m) (fun j => if j < n then f j else g (j - n)) := by
  apply List.ext_getElem?
  intro j
  by_cases h : j < n
  · rw [List.getElem?_append_left (by rw [cellsK_len]; exact h), cellsK_get _ _ _ _ h, cellsK_get _ _ _ _ (by omega), if_pos h]
  · rw [List.getElem?_append_right (by rw [cellsK_len]; omega), cellsK_len]
    by_cases h2 : j < n + m
    · rw [cellsK_get _ _ _ _ (by omega), cellsK_get _ _ _ _ h2, if_neg h]
    · rw [List.getElem?_eq_none (by rw [cellsK_len]; omega), List.getElem?_eq_none (by rw [cellsK_len]; omega)]
theorem cellsK_nil (k : IntKind) (f : Nat → Int) : cellsK k 0 f = [] := rfl
theorem cellsK_one' (k : IntKind) (x : Int) : cellsK k 1 (fun _ => x) = [.int k x] := rfl
theorem head_nil {a : Option Addr} {n cap : Nat} (h : Head a n cap) : a = none → n = 0 ∧ cap = 0 := fun e => ⟨by have := h.2 e; have := h.1; omega, h.2 e⟩
/-- The cells of a slice's row, as append reads them. -/
theorem bytes_cells {w : World} {a : Option Addr} {n : Nat} {f : Nat → Int} (h : Bytes w a n f) : ∀ ad, a = some ad → ∀ j u, (cellsK .u8 n f)[j]? = some u → w.cell? (ad.add j) = some u := by
  intro ad ha j u hu
  have hj : j < n := by have := (List.getElem?_eq_some_iff.1 hu).1; rwa [cellsK_len] at this
  obtain ⟨_, h0 | ⟨b, off, e, hc⟩⟩ := h
  · omega
  · rw [ha] at e; simp only [Option.some.injEq] at e; subst e
    rw [cellsK_get _ _ _ _ hj] at hu
    rw [show (⟨b, off, none⟩ : Addr).add j = ⟨b, off + j, none⟩ from by cases j <;> simp [Addr.add], hc j hj, hu]
theorem row_cells {k : IntKind} {w : World} {a : Option Addr} {n : Nat} {f : Nat → Int} (h : RowK k w a n f) : ∀ ad, a = some ad → ∀ j u, (cellsK k n f)[j]? = some u → w.cell? (ad.add j) = some u := by
  intro ad ha j u hu
  have hj : j < n := by have := (List.getElem?_eq_some_iff.1 hu).1; rwa [cellsK_len] at this
  obtain ⟨_, h0 | ⟨b, off, e, hc⟩⟩ := h
  · omega
  · rw [ha] at e; simp only [Option.some.injEq] at e; subst e
    rw [cellsK_get _ _ _ _ hj] at hu
    rw [show (⟨b, off, none⟩ : Addr).add j = ⟨b, off + j, none⟩ from by cases j <;> simp [Addr.add], hc j hj, hu]
/-- What an owned row of numbers gives. -/
theorem own_row {k : IntKind} {w : World} {base : Nat} {e : TypeId} {a : Option Addr} {n cap : Nat} {f : Nat → Int} (h : w.ownsRow base e 1 (.slice a n cap) n (cellsK k n f)) : Head a n cap ∧ (n = 0 ∨ ∃ b, base ≤ b ∧ a = some ⟨b, 0, none⟩ ∧ (∀ i, i < n → w.cell? ⟨b, 0 + i, none⟩ = some (.int k (f i)))) := by
  rcases id h.2 with ⟨e, h0⟩ | ⟨g, cap', cur, hv, hb, _, hn, _⟩
  · simp only [Value.slice.injEq] at e; obtain ⟨rfl, rfl, rfl⟩ := e; exact ⟨⟨Nat.le_refl _, fun _ => rfl⟩, .inl rfl⟩
  · simp only [Value.slice.injEq] at hv; obtain ⟨rfl, _, rfl⟩ := hv
    refine ⟨⟨by omega, fun e => by cases e⟩, .inr ⟨g, hb, rfl, fun i hi => ?_⟩⟩
    have := h.cells (g := g) rfl i _ (cellsK_get k n f i hi)
    rwa [show (⟨g, 0, none⟩ : Addr).add i = ⟨g, 0 + i, none⟩ from by cases i <;> simp [Addr.add]] at this
theorem own_bytes {w : World} {base : Nat} {e : TypeId} {a : Option Addr} {n cap : Nat} {f : Nat → Int} (h : w.ownsRow base e 1 (.slice a n cap) n (cellsK .u8 n f)) (hf : ∀ i, 0 ≤ f i ∧ f i < 256) : Head a n cap ∧ Bytes w a n f := by
  obtain ⟨h1, h2⟩ := own_row h
  exact ⟨h1, hf, h2.imp id fun ⟨b, _, e, hc⟩ => ⟨b, 0, e, hc⟩⟩
theorem own_ints {k : IntKind} {w : World} {base : Nat} {e : TypeId} {a : Option Addr} {n cap : Nat} {f : Nat → Int} (h : w.ownsRow base e 1 (.slice a n cap) n (cellsK k n f)) (hf : ∀ i, (Lit.int k (f i)).wf = true) : Head a n cap ∧ RowK k w a n f := by
  obtain ⟨h1, h2⟩ := own_row h
  exact ⟨h1, hf, h2.imp id fun ⟨b, _, e, hc⟩ => ⟨b, 0, e, hc⟩⟩
theorem own_lt {w : World} {base : Nat} {e : TypeId} {size : Nat} {v : Value} {n : Nat} {xs : List Value} (h : w.ownsRow base e size v n xs) : ∀ q, v.ownBlock = some q → base ≤ q := fun q hq => (h.lt q hq).1
/-- A row of numbers as it stands in a later world. -/
theorem cell_any {w w' : World} {p : Addr} {v : Value} (h : w.cell? p = some v) (hb : Below w.heap.size w w') : w'.cell? p = some v := (hb.cell (World.block_lt_of_cell? w p h)).trans h
/-- 'append([]T{}, xs...)': T of one cell. -/
theorem wpList_append_fresh {P : Program} (w : World) {ops : Array Oper} {rest : List Oper} {o : Oper} {a : Act} {Q : Exit → Act → World → Prop} (hgd : o.guard = none) (s x : Operand) (t : TypeId)
    (ho : o.op = .call { callee := .builtin .append, args := #[s, x], argTypes := #[t, t] })
    (e : TypeId) (z : Value) (bytes : Nat) (ht : P.underlying t = some (.slice e)) (hi : (P.info? e).map (fun i => (i.zero, i.size, i.bytes)) = some (some z, 1, bytes)) (hzs : z.cells.size = 1)
    (hs : a.eval s = .slice (some ⟨w.heap.size, 0, none⟩) 0 0)
    (sp : Option Addr) (m c : Nat) (news : List Value) (hx : a.eval x = .slice sp m c) (hl : news.length = m) (hnil : sp = none → m = 0 ∧ c = 0) (hnews : ∀ ad, sp = some ad → ∀ j u, news[j]? = some u → w.cell? (ad.add j) = some u) (h1 : ∀ u ∈ news, u.oneCell' = true)
    (h63 : m ≤ maxLen) (hbytes : m * bytes ≤ 140737488355328)
    (h : ∀ a' cap' w', w'.ownsRow w.heap.size e 1 (.slice a' m cap') m news → Below w.heap.size w w' → wpList P ops Q rest (a.put o.dst (.slice a' m cap')) w') : wpList P ops Q (o :: rest) a (w.alloc (.cells #[] e)) := by
  obtain ⟨i, hi0, hz0, hz1, hz2⟩ := info_parts hi
  have hb : Below w.heap.size w (w.alloc (.cells #[] e)) := (Below.refl _ w).alloc (Nat.le_refl _) _
  refine wpList_append_all _ hgd s x t ho w.heap.size e i z 1 bytes ht hi0 hz0 hz1 hz2 hzs (by decide) _ 0 [] hs (World.ownsRow_made w #[] 0 (Nat.le_refl _) (Nat.zero_le _) rfl) sp m c news hx (by omega) hnil (fun ad ha j u hu => cell_any (hnews ad ha j u hu) hb) h1 (by omega) (by rwa [Nat.zero_add]) hb.size ?_
  intro a' cap' w' hown hgrow
  rw [Nat.zero_add, List.nil_append] at hown
  rw [Nat.zero_add]
  exact h a' cap' w' hown (Below.grown hb hgrow hb.size (fun q hq => by simp [Value.ownBlock] at hq; omega))
theorem own_far {w : World} {base : Nat} {e : TypeId} {a : Option Addr} {n cap : Nat} {xs : List Value} {size : Nat} (h : w.ownsRow base e size (.slice a n cap) n xs) : ∀ b off, a = some ⟨b, off, none⟩ → base ≤ b := fun b off e => (h.lt b (by rw [e]; rfl)).1
theorem Bytes.set {w : World} {a : Option Addr} {n : Nat} {f : Nat → Int} (h : Bytes w a n f) {g : Nat} (hf : ∀ b off, a = some ⟨b, off, none⟩ → b ≠ g) (o : Nat) (v : Value) : Bytes (w.setCell ⟨g, o, none⟩ v) a n f :=
  ⟨h.1, h.2.imp id fun ⟨b, off, e, hc⟩ => ⟨b, off, e, fun i hi => by rw [World.cell?_setCell_other _ _ _ _ (fun q => hf b off e (congrArg Addr.block q).symm)]; exact hc i hi⟩⟩
theorem RowK.set {k : IntKind} {w : World} {a : Option Addr} {n : Nat} {f : Nat → Int} (h : RowK k w a n f) {g : Nat} (hf : ∀ b off, a = some ⟨b, off, none⟩ → b ≠ g) (o : Nat) (v : Value) : RowK k (w.setCell ⟨g, o, none⟩ v) a n f :=
  ⟨h.1, h.2.imp id fun ⟨b, off, e, hc⟩ => ⟨b, off, e, fun i hi => by rw [World.cell?_setCell_other _ _ _ _ (fun q => hf b off e (congrArg Addr.block q).symm)]; exact hc i hi⟩⟩
theorem own_cap {w : World} {base : Nat} {e : TypeId} {a : Option Addr} {n cap : Nat} {xs : List Value} {size : Nat} (h : w.ownsRow base e size (.slice a n cap) n xs) : n ≤ cap := by
  rcases id h.2 with ⟨e, h0⟩ | ⟨g, cap', cur, hv, _, _, hn, _⟩
  · omega
  · simp only [Value.slice.injEq] at hv; omega
/-- The same onto an empty row of the call's own, at a step of a region that draws its order. -/
theorem step_append_empty {P : Program} (w : World) {ops : Array Oper} {o : Oper} {a : Act} {K : Act → World → Prop} {Q : Exit → Act → World → Prop} {E : Prop} (hgd : o.guard = none) (s x : Operand) (t : TypeId)
    (ho : o.op = .call { callee := .builtin .append, args := #[s, x], argTypes := #[t, t] })
    (base : Nat) (e : TypeId) (i : TypeInfo) (z : Value) (size bytes : Nat) (ht : P.underlying t = some (.slice e)) (hi : P.info? e = some i) (hz : i.zero = some z)
    (hsize : i.size = size) (hby : i.bytes = bytes) (hzs : z.cells.size = size) (hsz : 0 < size)
    (blk : Nat) (hs : a.eval s = .slice (some ⟨blk, 0, none⟩) 0 0) (hown : w.ownsRow base e size (.slice (some ⟨blk, 0, none⟩) 0 0) 0 [])
    (sp : Option Addr) (m c : Nat) (news : List Value) (hx : a.eval x = .slice sp m c) (hl : news.length = m * size) (hnil : sp = none → m = 0 ∧ c = 0) (hnews : ∀ ad, sp = some ad → ∀ j u, news[j]? = some u → w.cell? (ad.add j) = some u) (h1 : ∀ u ∈ news, u.oneCell' = true)
    (h63 : m ≤ maxLen) (hbytes : m * bytes ≤ 140737488355328) (hbase : base ≤ w.heap.size)
    (h : ∀ a' cap' w', w'.ownsRow base e size (.slice a' m cap') m news → w.grownBy w' (some blk) → K (a.put o.dst (.slice a' m cap')) w') :
    if Region.wanted o (yielded ops a.tmps) = true then Oper.wp P o a w K Q else E := by
  refine step_append_all w hgd s x t ho base e i z size bytes ht hi hz hsize hby hzs hsz _ 0 [] hs hown sp m c news hx hl hnil hnews h1 (by rwa [Nat.zero_add]) (by rwa [Nat.zero_add]) hbase ?_
  intro a' cap' w' h2 h3
  rw [Nat.zero_add, List.nil_append] at h2
  rw [Nat.zero_add]
  exact h a' cap' w' h2 h3
theorem cellsK_congr (k : IntKind) (n : Nat) {f g : Nat → Int} (h : ∀ j, j < n → f j = g j) : cellsK k n f = cellsK k n g := by
  unfold cellsK
  exact List.map_congr_left fun j hj => by rw [h j (by simpa using hj)]
end Go.Proofs.Ytlmijnaimdknnaa
