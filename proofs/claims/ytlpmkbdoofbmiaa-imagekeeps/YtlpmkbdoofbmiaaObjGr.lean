/- Lists that grow, whose elements may have lists of their own. -/
import Derived.Test.YtlpmkbdoofbmiaaObjRd3
namespace Go.Proofs.Ytlpmkbdoofbmiaa
open Go.ChangeShapes Go.WideShapes Go.ChangeAt Go.RowKit
set_option linter.unusedVariables false
set_option linter.unusedSimpArgs false
/-- 'append(l, x)', l one's own: where it lies then. -/
theorem wp_append_one {P : Program} (w : World) {o : Oper} {a : Act} {K : Act → World → Prop} {Q : Exit → Act → World → Prop} (s x : Operand) (t : TypeId)
    (ho : o.op = .call { callee := .builtin .append, args := #[s, x], argTypes := #[t, t] })
    (base : Nat) (e : TypeId) (i : TypeInfo) (z : Value) (size bytes : Nat) (ht : P.underlying t = some (.slice e)) (hi : P.info? e = some i) (hz : i.zero = some z)
    (hsize : i.size = size) (hby : i.bytes = bytes) (hzs : z.cells.size = size) (hsz : 0 < size)
    (v : Value) (n : Nat) (xs : List Value) (hs : a.eval s = v) (hown : w.ownsRow base e size v n xs)
    (ad : Addr) (c : Nat) (news : List Value) (hx : a.eval x = .slice (some ad) 1 c) (hl : news.length = size) (hnews : ∀ j u, news[j]? = some u → w.cell? (ad.add j) = some u) (h1 : ∀ u ∈ news, u.oneCell' = true)
    (h63 : n + 1 ≤ maxLen) (hbytes : (n + 1) * bytes ≤ 140737488355328) (hbase : base ≤ w.heap.size)
    (h : ∀ a' cap' w', w'.ownsRow base e size (.slice a' (n + 1) cap') (n + 1) (xs ++ news) → w.grownBy w' v.ownBlock → (∀ q, a' = some q → v.ownBlock = some q.block ∨ q.block = w.heap.size) → K (a.put o.dst (.slice a' (n + 1) cap')) w') : o.wp P a w K Q := by
  obtain ⟨v', w', hr, h2, h3, _, h5⟩ := run_append_own_at (P := P) w base t o.type e i z size bytes ht hi hz hsize hby hzs hsz v n xs hown ad 1 c news (by rw [hl, Nat.one_mul]) hnews h1 h63 hbytes hbase
  obtain ⟨a', cap', rfl⟩ := own_form h2
  unfold Oper.wp execOp
  simp only [ho, resolve, invoke, builtin, Sem.run_bind, Sem.run_pure, Result.andThen_ok, List.map_toArray, List.map_cons, List.map_nil, hs, hx, hr]
  refine h a' cap' w' h2 h3 fun q e => ?_
  subst e
  rcases h5 with h5 | h5
  · exact .inl (by rw [← h5]; rfl)
  · exact .inr (by simpa [Value.ownBlock] using h5)
theorem wpList_append_one {P : Program} (w : World) {ops : Array Oper} {rest : List Oper} {o : Oper} {a : Act} {Q : Exit → Act → World → Prop} (hgd : o.guard = none) (s x : Operand) (t : TypeId)
    (ho : o.op = .call { callee := .builtin .append, args := #[s, x], argTypes := #[t, t] })
    (base : Nat) (e : TypeId) (i : TypeInfo) (z : Value) (size bytes : Nat) (ht : P.underlying t = some (.slice e)) (hi : P.info? e = some i) (hz : i.zero = some z)
    (hsize : i.size = size) (hby : i.bytes = bytes) (hzs : z.cells.size = size) (hsz : 0 < size)
    (v : Value) (n : Nat) (xs : List Value) (hs : a.eval s = v) (hown : w.ownsRow base e size v n xs)
    (ad : Addr) (c : Nat) (news : List Value) (hx : a.eval x = .slice (some ad) 1 c) (hl : news.length = size) (hnews : ∀ j u, news[j]? = some u → w.cell? (ad.add j) = some u) (h1 : ∀ u ∈ news, u.oneCell' = true)
    (h63 : n + 1 ≤ maxLen) (hbytes : (n + 1) * bytes ≤ 140737488355328) (hbase : base ≤ w.heap.size)
    (h : ∀ a' cap' w', w'.ownsRow base e size (.slice a' (n + 1) cap') (n + 1) (xs ++ news) → w.grownBy w' v.ownBlock → (∀ q, a' = some q → v.ownBlock = some q.block ∨ q.block = w.heap.size) → wpList P ops Q rest (a.put o.dst (.slice a' (n + 1) cap')) w') : wpList P ops Q (o :: rest) a w :=
  wpList_plain hgd fun _ hK => wp_append_one w s x t ho base e i z size bytes ht hi hz hsize hby hzs hsz v n xs hs hown ad c news hx hl hnews h1 h63 hbytes hbase fun a' cap' w' h2 h3 h4 => hK _ _ (h a' cap' w' h2 h3 h4)
theorem step_append_one {P : Program} (w : World) {ops : Array Oper} {o : Oper} {a : Act} {K : Act → World → Prop} {Q : Exit → Act → World → Prop} {E : Prop} (hgd : o.guard = none) (s x : Operand) (t : TypeId)
    (ho : o.op = .call { callee := .builtin .append, args := #[s, x], argTypes := #[t, t] })
    (base : Nat) (e : TypeId) (i : TypeInfo) (z : Value) (size bytes : Nat) (ht : P.underlying t = some (.slice e)) (hi : P.info? e = some i) (hz : i.zero = some z)
    (hsize : i.size = size) (hby : i.bytes = bytes) (hzs : z.cells.size = size) (hsz : 0 < size)
    (v : Value) (n : Nat) (xs : List Value) (hs : a.eval s = v) (hown : w.ownsRow base e size v n xs)
    (ad : Addr) (c : Nat) (news : List Value) (hx : a.eval x = .slice (some ad) 1 c) (hl : news.length = size) (hnews : ∀ j u, news[j]? = some u → w.cell? (ad.add j) = some u) (h1 : ∀ u ∈ news, u.oneCell' = true)
    (h63 : n + 1 ≤ maxLen) (hbytes : (n + 1) * bytes ≤ 140737488355328) (hbase : base ≤ w.heap.size)
    (h : ∀ a' cap' w', w'.ownsRow base e size (.slice a' (n + 1) cap') (n + 1) (xs ++ news) → w.grownBy w' v.ownBlock → (∀ q, a' = some q → v.ownBlock = some q.block ∨ q.block = w.heap.size) → K (a.put o.dst (.slice a' (n + 1) cap')) w') :
    if Region.wanted o (yielded ops a.tmps) = true then Oper.wp P o a w K Q else E := by
  have hw : Region.wanted o (yielded ops a.tmps) = true := by simp [Region.wanted, hgd]
  rw [if_pos hw]
  exact wp_append_one w s x t ho base e i z size bytes ht hi hz hsize hby hzs hsz v n xs hs hown ad c news hx hl hnews h1 h63 hbytes hbase h
/-- The elements' own blocks: new, and not the list's. -/
def Mine (b n : Nat) (v : Value) : Nat → Prop := fun k => (b ≤ k ∧ k < n) ∧ v.ownBlock ≠ some k
structure Ek {α : Type} (E : (Nat → Prop) → World → α → Prop) : Prop where
  keep : ∀ A W W' x, E A W x → Stay A W W' → E A W' x
  wide : ∀ (A A' : Nat → Prop) W x, E A W x → (∀ k, A k → A' k) → E A' W x
structure Gr {α : Type} (E : (Nat → Prop) → World → α → Prop) (cells : α → List Value) (t : TypeId) (sz b n : Nat) (v : Value) (L : List α) (W : World) : Prop where
  own : W.ownsRow b t sz v L.length (L.flatMap cells)
  el : ∀ x ∈ L, E (Mine b n v) W x
  top : ∀ q, v.ownBlock = some q → q < n
  le : b ≤ n ∧ n ≤ W.heap.size
section
variable {α : Type} {E : (Nat → Prop) → World → α → Prop} {cells : α → List Value} {t : TypeId} {sz b n : Nat} {v : Value} {L : List α} {W W' : World}
theorem Gr.keep (hE : Ek E) (h : Gr E cells t sz b n v L W) (hs : W.heap.size ≤ W'.heap.size) (hk : ∀ k, b ≤ k → k < n → W'.heap[k]? = W.heap[k]?) : Gr E cells t sz b n v L W' :=
  ⟨own_lo h.own fun k hk1 hk2 => hk k (own_oct h.own k hk2).1 (h.top k hk2), fun x hx => hE.keep _ _ _ _ (h.el x hx) fun k hA hk' => hk k hA.1.1 hA.1.2, h.top, h.le.1, Nat.le_trans h.le.2 hs⟩
theorem Gr.later (hE : Ek E) (h : Gr E cells t sz b n v L W) (hb : Below W.heap.size W W') : Gr E cells t sz b n v L W' :=
  h.keep hE hb.size fun k _ hk => hb.block k (Nat.lt_of_lt_of_le hk h.le.2)
theorem Gr.nil (hb : b ≤ W.heap.size) : Gr E cells t sz b b (.slice none 0 0) [] W :=
  ⟨⟨by simp, .inl ⟨rfl, rfl⟩⟩, fun x hx => (by cases hx), fun q hq => (by cases hq), Nat.le_refl _, hb⟩
theorem own_some {a : Option Addr} {m c q : Nat} (h : (Value.slice a m c).ownBlock = some q) : ∃ p, a = some p ∧ p.block = q := by
  cases a with
  | none => cases h
  | some p => exact ⟨p, rfl, by simpa [Value.ownBlock] using h⟩
theorem Gr.more (hE : Ek E) (h : Gr E cells t sz b n v L W) {x : α} {A : Nat → Prop} (hx : E A W x) (hA : ∀ k, A k → n ≤ k ∧ k < W.heap.size) {a : Option Addr} {c : Nat} (own' : W'.ownsRow b t sz (.slice a (L.length + 1) c) (L.length + 1) (L.flatMap cells ++ cells x))
    (gr : W.grownBy W' v.ownBlock) (wh : ∀ q, a = some q → v.ownBlock = some q.block ∨ q.block = W.heap.size) : Gr E cells t sz b W'.heap.size (.slice a (L.length + 1) c) (L ++ [x]) W' := by
  have hs := gr.size
  have hl := h.le
  have wh' : ∀ k, (Value.slice a (L.length + 1) c).ownBlock = some k → v.ownBlock = some k ∨ k = W.heap.size := fun k hk => by
    obtain ⟨p, e1, e2⟩ := own_some hk
    rw [← e2]; exact wh p e1
  refine ⟨own_more cells own', fun y hy => ?_, fun q hq => (own_oct own' q hq).2, Nat.le_trans hl.1 (Nat.le_trans hl.2 hs), Nat.le_refl _⟩
  rcases List.mem_append.mp hy with hy | hy
  · refine hE.wide _ _ _ _ (hE.keep _ _ _ _ (h.el y hy) fun k hA hk => gr.block k hk fun e => hA.2 e.symm) fun k hA => ⟨⟨hA.1.1, by have := hA.1.2; omega⟩, fun e => ?_⟩
    rcases wh' k e with e | e
    · exact hA.2 e
    · have := hA.1.2; omega
  · rw [List.mem_singleton] at hy
    subst hy
    refine hE.wide _ _ _ _ (hE.keep _ _ _ _ hx fun k hk hk' => gr.block k hk' fun e => ?_) fun k hk => ⟨⟨by have := hA k hk; omega, by have := hA k hk; omega⟩, fun e => ?_⟩
    · have := h.top k e.symm; have := hA k hk; omega
    · rcases wh' k e with e | e
      · have := h.top k e; have := hA k hk; omega
      · have := hA k hk; omega
theorem LstA.fst {β : Type} {A : Nat → Prop} {el : Nat → Nat → β → Prop} (f : α → β) (h : LstA sz (fun b o x => el b o (f x)) A v L) : LstA sz el A v (L.map f) := by
  obtain ⟨a, c, e, hh, hA, hl⟩ := h
  refine ⟨a, c, by rw [List.length_map]; exact e, by rw [List.length_map]; exact hh, hA, ?_⟩
  rcases hl with rfl | ⟨b, off, e, hc⟩
  · exact .inl rfl
  · refine .inr ⟨b, off, e, fun i y hy => ?_⟩
    rw [List.getElem?_map, Option.map_eq_some_iff] at hy
    obtain ⟨x, hx, rfl⟩ := hy
    exact hc i x hx
theorem Gr.lst {β : Type} (h : Gr E cells t sz b n v L W) (hc : ∀ x, (cells x).length = sz) (f : α → β) {el : Nat → Nat → β → Prop} (hel : ∀ b' o x, E (Mine b n v) W x → (∀ j u, (cells x)[j]? = some u → W.cell? ⟨b', o + j, none⟩ = some u) → el b' o (f x)) : LstA sz el (fun k => b ≤ k ∧ k < W.heap.size) v (L.map f) :=
  LstA.fst f (own_lst hc h.own fun b' o x hx hc => hel b' o x (h.el x hx) hc)
end
/-- A function, and where its words and relocations are. -/
abbrev FX := FuncM × Value × Value
def FE (A : Nat → Prop) (W : World) (x : FX) : Prop := IsWords A W x.2.1 x.1.code ∧ IsRels A W x.2.2 x.1.rels ∧ x.1.name.size ≤ maxLen
def fxC (x : FX) : List Value := [.string x.1.name, .int .i64 x.1.bind, x.2.1, x.2.2]
theorem FE.ek : Ek FE := ⟨fun A W W' x h hk => ⟨h.1.keep hk, h.2.1.keep hk, h.2.2⟩, fun A A' W x h hA => ⟨h.1.wide hA, h.2.1.wide hA, h.2.2⟩⟩
abbrev DX := DataM × Value × Value
def DE (A : Nat → Prop) (W : World) (x : DX) : Prop := IsBytes A W x.2.1 x.1.bytes ∧ IsRels A W x.2.2 x.1.rels ∧ x.1.name.size ≤ maxLen
def dxC (x : DX) : List Value := [.string x.1.name, .int .i64 x.1.bind, .int .i64 x.1.align, .bool x.1.fixed, .int .i64 x.1.size, x.2.1, x.2.2]
theorem DE.ek : Ek DE := ⟨fun A W W' x h hk => ⟨h.1.keep hk, h.2.1.keep hk, h.2.2⟩, fun A A' W x h hA => ⟨h.1.wide hA, h.2.1.wide hA, h.2.2⟩⟩
def NE (A : Nat → Prop) (W : World) (x : NoteM) : Prop := x.name.size ≤ maxLen
theorem NE.ek : Ek NE := ⟨fun A W W' x h hk => h, fun A A' W x h hA => h⟩
def UE (A : Nat → Prop) (W : World) (x : Int) : Prop := 0 ≤ x ∧ x < 4294967296
theorem UE.ek : Ek UE := ⟨fun A W W' x h hk => h, fun A A' W x h hA => h⟩
def uC (x : Int) : List Value := [.int .u32 x]
theorem lst_one {A : Nat → Prop} {w : World} {v : Value} {l : List RelM} (h : IsRels A w v l) : v.oneCell' = true := by obtain ⟨a, c, rfl, _⟩ := h; rfl
theorem words_one {A : Nat → Prop} {w : World} {v : Value} {l : List Int} (h : IsWords A w v l) : v.oneCell' = true := by obtain ⟨⟨a, c, rfl, _⟩, _⟩ := h; rfl
theorem bytes_one {A : Nat → Prop} {w : World} {v : Value} {l : Bs} (h : IsBytes A w v l) : v.oneCell' = true := by obtain ⟨⟨a, c, rfl, _⟩, _⟩ := h; rfl
theorem Gr.words {b n : Nat} {v : Value} {L : List Int} {W : World} {t : TypeId} (h : Gr UE uC t 1 b n v L W) : IsWords (fun k => b ≤ k ∧ k < W.heap.size) W v L := by
  have key := h.lst (fun _ => rfl) id (el := NumAt .u32 W) fun b' o x _ hc => hc 0 _ rfl
  rw [List.map_id] at key
  exact ⟨key, fun x hx => h.el x hx⟩
theorem Gr.funcs {b n : Nat} {v : Value} {L : List FX} {W : World} {t : TypeId} (h : Gr FE fxC t 4 b n v L W) : IsFuncs (fun k => b ≤ k ∧ k < W.heap.size) W v (L.map Prod.fst) := by
  have hA : ∀ k, Mine b n v k → b ≤ k ∧ k < W.heap.size := fun k hk => ⟨hk.1.1, Nat.lt_of_lt_of_le hk.1.2 h.le.2⟩
  exact h.lst (fun _ => rfl) Prod.fst fun b' o x hx hc => ⟨x.2.1, x.2.2, hc 0 _ rfl, hc 1 _ rfl, hc 2 _ rfl, hc 3 _ rfl, hx.1.wide hA, hx.2.1.wide hA, hx.2.2⟩
theorem Gr.datas {b n : Nat} {v : Value} {L : List DX} {W : World} {t : TypeId} (h : Gr DE dxC t 7 b n v L W) : IsDatas (fun k => b ≤ k ∧ k < W.heap.size) W v (L.map Prod.fst) := by
  have hA : ∀ k, Mine b n v k → b ≤ k ∧ k < W.heap.size := fun k hk => ⟨hk.1.1, Nat.lt_of_lt_of_le hk.1.2 h.le.2⟩
  exact h.lst (fun _ => rfl) Prod.fst fun b' o x hx hc => ⟨x.2.1, x.2.2, hc 0 _ rfl, hc 1 _ rfl, hc 2 _ rfl, hc 3 _ rfl, hc 4 _ rfl, hc 5 _ rfl, hc 6 _ rfl, hx.1.wide hA, hx.2.1.wide hA, hx.2.2⟩
theorem Gr.notes {b n : Nat} {v : Value} {L : List NoteM} {W : World} {t : TypeId} (h : Gr NE noteC t 2 b n v L W) : IsNotes (fun k => b ≤ k ∧ k < W.heap.size) W v L := by
  have key := h.lst (fun _ => rfl) id (el := NoteAt W) fun b' o x hx hc => ⟨hc 0 _ rfl, hc 1 _ rfl, hx⟩
  rwa [List.map_id] at key
theorem Stable.and {g X : Nat} {K K' : World → Prop} (h : Stable g X K) (h' : Stable g X K') : Stable g X fun W => K W ∧ K' W := fun W W' k h1 h2 => ⟨h W W' k.1 h1 h2, h' W W' k.2 h1 h2⟩
theorem stable_gr {α : Type} {E : (Nat → Prop) → World → α → Prop} (hE : Ek E) {cells : α → List Value} {t : TypeId} {sz b n : Nat} {v : Value} {L : List α} {g X : Nat} (hg : g < b) (hX : n ≤ X ∨ X < b) : Stable g X (Gr E cells t sz b n v L) := fun W W' h h1 h2 =>
  h.keep hE h1 fun k k1 k2 => h2 k (Nat.lt_of_lt_of_le k2 h.le.2) (by omega) (by omega)
theorem stable_xat {g X Y : Nat} {cs : List Value} (hg : Y ≠ g) (hX : Y ≠ X) : Stable g X fun W => XAt W Y cs ∧ Y < W.heap.size := fun W W' h h1 h2 => ⟨h.1.keep (h2 Y h.2 hg hX), Nat.lt_of_lt_of_le h.2 h1⟩
/-- Within a round, what lies below w0's end being as it was. -/
structure Lq (B Z : Nat) (w0 : World) (g X : Nat) (K : World → Prop) (s : St) (cs : List Value) (W : World) : Prop where
  rd : Rd B Z W g s
  xa : XAt W X cs
  k : K W
  low : Below w0.heap.size w0 W
  lt : X < W.heap.size
  hx : B ≤ X ∧ w0.heap.size ≤ g ∧ w0.heap.size ≤ X
section
variable {B Z : Nat} {w0 : World} {g X : Nat} {K : World → Prop} {s s' : St} {cs : List Value} {W W' : World}
theorem Lq.call (h : Lq B Z w0 g X K s cs W) (HK : Stable g X K) (hr : Rd B Z W' g s') (ha : Apart (G1 g) W W') : Lq B Z w0 g X K s' cs W' := by
  have hg := h.rd.base.1
  have hX := h.hx
  exact ⟨hr, h.xa.apart h.lt ha (by show ¬ X = g; omega), HK W W' h.k ha.size fun k h1 h2 _ => ha.block k h1 h2, ⟨ha.os.trans h.low.os, ha.tape.trans h.low.tape, ha.output.trans h.low.output, Nat.le_trans h.low.size ha.size, fun k hk => (ha.block k (Nat.lt_of_lt_of_le hk h.low.size) (by show ¬ k = g; omega)).trans (h.low.block k hk)⟩, Nat.lt_of_lt_of_le h.lt ha.size, h.hx⟩
theorem Lq.set (h : Lq B Z w0 g X K s cs W) (HK : Stable g X K) (i : Nat) (hi : i < cs.length) (v : Value) : Lq B Z w0 g X K s (cs.set i v) (W.setCell ⟨X, i, none⟩ v) := by
  have lo : Below X W (W.setCell ⟨X, i, none⟩ v) := low_set v (Nat.le_refl _)
  exact ⟨h.rd.low (low_set v h.hx.1), h.xa.set i hi v, HK W _ h.k lo.size fun k h1 h2 h3 => Below.heap_setCell _ _ _ _ (by simpa using h3), h.low.trans (low_set v h.hx.2.2), Nat.lt_of_lt_of_le h.lt lo.size, h.hx⟩
theorem Lq.later (h : Lq B Z w0 g X K s cs W) (HK : Stable g X K) (hb : Below W.heap.size W W') : Lq B Z w0 g X K s cs W' :=
  h.call HK (h.rd.later hb) (Apart.of_below hb)
/-- A new variable: the elder one is a thing among others. -/
theorem Lq.new (h : Lq B Z w0 g X K s cs W) (HK : Stable g X K) (ds : Array Value) (t : TypeId) : Lq B Z w0 g W.heap.size (fun W => K W ∧ XAt W X cs ∧ X < W.heap.size) s ds.toList (W.alloc (.cells ds t)) := by
  have up := keep_alloc8 (Below.refl _ W) (.cells ds t)
  have l := h.later HK up
  exact ⟨l.rd, XAt.new _ _ _, ⟨l.k, l.xa, l.lt⟩, l.low, by simp, ⟨h.rd.base.2, h.hx.2.1, h.low.size⟩⟩
/-- Back to the elder one, with another row behind it. -/
theorem Lq.back {K' : World → Prop} {Y : Nat} {ds : List Value} (h : Lq B Z w0 g Y K' s ds W) (hX : B ≤ X ∧ w0.heap.size ≤ X) (hk : K W) (hx : XAt W X cs ∧ X < W.heap.size) : Lq B Z w0 g X K s cs W :=
  ⟨h.rd, hx.1, hk, h.low, hx.2, hX.1, h.hx.2.1, hX.2⟩
end
/-- What stands while nothing below b is written to but g and O. -/
def Under (g O b : Nat) (K : World → Prop) : Prop := ∀ W W', K W → W.heap.size ≤ W'.heap.size → (∀ k, k < W.heap.size → k < b → k ≠ g → k ≠ O → W'.heap[k]? = W.heap[k]?) → K W'
theorem Under.stable {g O b X : Nat} {K : World → Prop} (h : Under g O b K) (hX : X = O ∨ b ≤ X) : Stable g X K := fun W W' k h1 h2 => h W W' k h1 fun j j1 j2 j3 j4 => h2 j j1 j3 (by omega)
theorem Under.and {g O b : Nat} {K K' : World → Prop} (h : Under g O b K) (h' : Under g O b K') : Under g O b fun W => K W ∧ K' W := fun W W' k h1 h2 => ⟨h W W' k.1 h1 h2, h' W W' k.2 h1 h2⟩
theorem Under.more {g O b b' : Nat} {K : World → Prop} (h : Under g O b K) (hb : b ≤ b') : Under g O b' K := fun W W' k h1 h2 => h W W' k h1 fun j j1 j2 => h2 j j1 (Nat.lt_of_lt_of_le j2 hb)
theorem under_gr {α : Type} {E : (Nat → Prop) → World → α → Prop} (hE : Ek E) {cells : α → List Value} {t : TypeId} {sz b n : Nat} {v : Value} {L : List α} {g O b' : Nat} (hg : g < b) (hO : O < b) (hn : n ≤ b') : Under g O b' (Gr E cells t sz b n v L) := fun W W' h h1 h2 =>
  h.keep hE h1 fun k k1 k2 => h2 k (Nat.lt_of_lt_of_le k2 h.le.2) (by omega) (by omega) (by omega)
/-- One more, and where the list lies is stored. -/
theorem Lq.more {α : Type} {E : (Nat → Prop) → World → α → Prop} (hE : Ek E) {cells : α → List Value} {t : TypeId} {sz b n : Nat} {v : Value} {L : List α} {Bq Z : Nat} {w0 : World} {g X O : Nat} {K0 K1 : World → Prop} {s : St} {cs ds : List Value} {W W' : World} (h : Lq Bq Z w0 g X K1 s ds W)
    (hO : Bq ≤ O ∧ w0.heap.size ≤ O ∧ O < b ∧ g ≠ O) (hU : Under g O b K0) (hK : K0 W) (hG : Gr E cells t sz b n v L W) (hx : XAt W O cs ∧ O < W.heap.size) {x : α} {A : Nat → Prop} (he : E A W x) (hA : ∀ k, A k → n ≤ k ∧ k < W.heap.size)
    {a : Option Addr} {c : Nat} (own' : W'.ownsRow b t sz (.slice a (L.length + 1) c) (L.length + 1) (L.flatMap cells ++ cells x)) (gr : W.grownBy W' v.ownBlock) (wh : ∀ q, a = some q → v.ownBlock = some q.block ∨ q.block = W.heap.size) (i : Nat) (hi : i < cs.length) :
    Lq Bq Z w0 g O (fun V => K0 V ∧ Gr E cells t sz b W'.heap.size (.slice a (L.length + 1) c) (L ++ [x]) V) s (cs.set i (.slice a (L.length + 1) c)) (W'.setCell ⟨O, i, none⟩ (.slice a (L.length + 1) c)) := by
  have hown : ∀ q, v.ownBlock = some q → b ≤ q := fun q hq => (own_oct hG.own q hq).1
  have hBg := h.rd.base
  have hs := gr.size
  have lo : Below Bq W W' := Below.grown (Below.refl _ _) gr hBg.2 fun q hq => by have := hown q hq; omega
  have hxx := h.hx
  have key : Lq Bq Z w0 g O (fun V => K0 V ∧ Gr E cells t sz b W'.heap.size (.slice a (L.length + 1) c) (L ++ [x]) V) s cs W' :=
    ⟨h.rd.low lo, hx.1.keep (gr.block O hx.2 fun e => by have := hown O e.symm; omega), ⟨hU W W' hK hs fun k h1 h2 _ _ => gr.block k h1 fun e => by have := hown k e.symm; omega, hG.more hE he hA own' gr wh⟩, h.low.trans (lo.mono (by omega)), Nat.lt_of_lt_of_le hx.2 hs, ⟨hO.1, hxx.2.1, hO.2.1⟩⟩
  exact key.set (Stable.and (hU.stable (.inl rfl)) (stable_gr hE (by omega) (.inr (by omega)))) i hi _
/-- A round begins: a new variable beside the list. -/
theorem Lq.enter {α : Type} {E : (Nat → Prop) → World → α → Prop} (hE : Ek E) {cells : α → List Value} {t : TypeId} {sz b n : Nat} {v : Value} {L : List α} {Bq Z : Nat} {w0 : World} {g O : Nat} {K0 : World → Prop} {s : St} {cs : List Value} {W : World} (h : Lq Bq Z w0 g O (fun W => K0 W ∧ Gr E cells t sz b n v L W) s cs W)
    (hU : Under g O b K0) (hO : O < b) (ds : Array Value) (ty : TypeId) : ∃ K1 : World → Prop, (∀ V, K1 V → (K0 V ∧ Gr E cells t sz b n v L V) ∧ XAt V O cs ∧ O < V.heap.size) ∧ Under g W.heap.size (W.heap.size + 1) K1 ∧ Lq Bq Z w0 g W.heap.size K1 s ds.toList (W.alloc (.cells ds ty)) ∧ (n ≤ W.heap.size ∧ O < W.heap.size ∧ g < O ∧ b ≤ n) := by
  have hB := h.rd.base
  have hx := h.hx
  have hl := h.k.2.le
  have hlt := h.lt
  refine ⟨fun V => (K0 V ∧ Gr E cells t sz b n v L V) ∧ XAt V O cs ∧ O < V.heap.size, fun V k => k, fun V V' k h1 h2 => ⟨⟨hU V V' k.1.1 h1 fun j j1 j2 j3 j4 => h2 j j1 (by omega) j3 (by omega), k.1.2.keep hE h1 fun j j1 j2 => h2 j (Nat.lt_of_lt_of_le j2 k.1.2.le.2) (by omega) (by omega) (by omega)⟩, k.2.1.keep (h2 O k.2.2 (by omega) (by omega) (by omega)), Nat.lt_of_lt_of_le k.2.2 h1⟩, ?_, ⟨hl.2, hlt, by omega, hl.1⟩⟩
  exact h.new (Stable.and (hU.stable (.inl rfl)) (stable_gr hE (by omega) (.inr hO))) ds ty
/-! ### The reader's methods, told so -/
section
variable {Bq Z : Nat} {w0 : World} {g X : Nat} {K : World → Prop} {s : St} {cs : List Value} {W W' : World}
theorem take_byt {n : Nat} {s : St} (h : ∀ b, s = .good b → Byt b) : Byt (takeR n s).1 := by
  cases s with
  | bad e => intro x hx; simp [takeR] at hx; omega
  | good b =>
    unfold takeR
    dsimp only
    split
    · exact fun x hx => h b rfl x (List.mem_of_mem_take hx)
    · intro x hx; simp at hx; omega
theorem Lq.grown (h : Lq Bq Z w0 g X K s cs W) (hU : Under g X (X + 1) K) {ob : Option Nat} (gr : W.grownBy W' ob) (ho : ∀ q, ob = some q → X < q) : Lq Bq Z w0 g X K s cs W' := by
  have hs := gr.size
  have hBg := h.rd.base
  have hx := h.hx
  have lo : Below Bq W W' := Below.grown (Below.refl _ _) gr hBg.2 fun q hq => by have := ho q hq; omega
  exact ⟨h.rd.low lo, h.xa.keep (gr.block X h.lt fun e => by have := ho X e.symm; omega), hU W W' h.k hs fun k h1 h2 _ _ => gr.block k h1 fun e => by have := ho k e.symm; omega, h.low.trans (lo.mono (by omega)), Nat.lt_of_lt_of_le h.lt hs, hx⟩
theorem stable_bytes {P P2 : Nat} {v : Value} {l : Bs} (hg : g < P) (hX : X < P) : Stable g X fun W => IsBytes (fun k => P ≤ k ∧ k < P2) W v l := fun W W' h h1 h2 => h.keep fun k hA hk => h2 k hk (by have := hA.1; omega) (by have := hA.1; omega)
/-- The list's bytes behind 'append(new, bytes...)'. -/
theorem own_bytes9 {w : World} {base : Nat} {e : TypeId} {a : Option Addr} {c n : Nat} {l : Bs} (h : w.ownsRow base e 1 (.slice a n c) n (cellsK .u8 n (gF l))) (hl : l.length = n) (hb : Byt l) : IsBytes (fun k => base ≤ k ∧ k < w.heap.size) w (.slice a n c) l := by
  subst hl
  rw [cellsK_map] at h
  exact own_bytesL h hb
end
end Go.Proofs.Ytlpmkbdoofbmiaa
