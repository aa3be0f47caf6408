/- An image in memory; bytes that grow. -/
import Derived.Test.YtlpmkbdoofbmiaaImgMath
import Derived.Test.YtlpmkbdoofbmiaaObjTk0
import Derived.Test.YtlpmkbdoofbmiaaObjSame2
import Derived.Test.YtlpmkbdoofbmiaaObjPut2
import Derived.ArgAppend
import Derived.Lib.SlBytesConst
namespace Go.Proofs.Ytlpmkbdoofbmiaa
open Go.ChangeShapes Go.WideShapes Go.ChangeAt Go.RowKit
set_option linter.unusedVariables false
set_option linter.unusedSimpArgs false
theorem Hid.mk9 {P : Prop} (h : P) : Hid P := h
/-- The value is this image; its lists lie in blocks of A. -/
def IsImg (A : Nat → Prop) (w : World) (v : Value) (m : ImM) : Prop := ∃ vc vd, v = .agg #[vc, .int .i64 m.entry, vd, .int .i64 m.write, .int .i64 m.more] ∧ IsWords A w vc m.code ∧ IsBytes A w vd m.data
theorem IsImg.keep {A : Nat → Prop} {w w' : World} {v : Value} {m : ImM} (h : IsImg A w v m) (hk : Stay A w w') : IsImg A w' v m := by
  obtain ⟨vc, vd, e, h1, h2⟩ := h
  exact ⟨vc, vd, e, h1.keep hk, h2.keep hk⟩
theorem IsImg.wide {A A' : Nat → Prop} {w : World} {v : Value} {m : ImM} (h : IsImg A w v m) (hA : ∀ k, A k → A' k) : IsImg A' w v m := by
  obtain ⟨vc, vd, e, h1, h2⟩ := h
  exact ⟨vc, vd, e, h1.wide hA, h2.wide hA⟩
theorem IsImg.open {A : Nat → Prop} {w : World} {v : Value} {m : ImM} (h : IsImg A w v m) : ∃ ca cc da dc, v = .agg #[.slice ca m.code.length cc, .int .i64 m.entry, .slice da m.data.length dc, .int .i64 m.write, .int .i64 m.more] ∧ IsWords A w (.slice ca m.code.length cc) m.code ∧ IsBytes A w (.slice da m.data.length dc) m.data := by
  obtain ⟨vc, vd, rfl, h1, h2⟩ := h
  obtain ⟨ca, cc, rfl, -, -, -⟩ := LstA.open h1.1
  obtain ⟨da, dc, rfl, -, -, -⟩ := LstA.open h2.1
  exact ⟨ca, cc, da, dc, rfl, h1, h2⟩
theorem nil_img (A : Nat → Prop) (w : World) : IsImg A w (.agg #[.slice none 0 0, .int .i64 0, .slice none 0 0, .int .i64 0, .int .i64 0]) noIm := ⟨_, _, rfl, ⟨LstA.nil, fun _ h => by cases h⟩, ⟨LstA.nil, fun _ h => by cases h⟩⟩
/-- Blocks from B on, in the world. -/
def Fresh (B : Nat) (w : World) : Nat → Prop := fun k => B ≤ k ∧ k < w.heap.size
theorem own_is {base : Nat} {w : World} {v : Value} {l : Bs} (h : OwnB base w v l) (hb : Byt l) : IsBytes (Fresh base w) w v l := own_bytesL h hb
theorem dig4_bytes (x : Int) (h0 : 0 ≤ x) (h1 : x < 4294967296) : (bytesOf x).toList = (digL 4 x).map fun x => .int .u8 x := by
  have e : digL 4 x = [x % 256, x / 256 % 256, x / 65536 % 256, x / 16777216] := by
    show [x % 256, x / 256 % 256, x / 256 / 256 % 256, x / 256 / 256 / 256 % 256] = _
    rw [show x / 256 / 256 % 256 = x / 65536 % 256 from by omega, show x / 256 / 256 / 256 % 256 = x / 16777216 from by omega]
  rw [e]; rfl
/-- A literal of bytes. -/
theorem lit_bytes (w : World) (C : Array Value) (fr : Nat × Nat) (l : Bs) (hC : C.toList = l.map fun x => .int .u8 x) (hb : Byt l) (hm : l.length ≤ maxLen) : IsBytes (fun _ => True) (w.alloc (.cells C 5 fr)) (.slice (some ⟨w.heap.size, 0, none⟩) l.length l.length) l := by
  refine ⟨⟨_, _, rfl, ⟨⟨Nat.le_refl _, fun e => by cases e⟩, hm⟩, fun _ _ => trivial, .inr ⟨_, _, rfl, fun i x hx => ?_⟩⟩, hb⟩
  show (w.alloc (.cells C 5 fr)).cell? ⟨w.heap.size, 0 + i * 1, none⟩ = _
  rw [Nat.zero_add, Nat.mul_one, World.cell?_alloc_mark, ← Array.getElem?_toList, hC, List.getElem?_map, hx]
  rfl
/-- A boxed image, and the image itself, in a later world. -/
theorem box_img {A : Nat → Prop} {w : World} {ca da : Option Addr} {C D cc dc : Nat} {en wt mo : Int} {p : ImM} (h : IsImg A w (.agg #[.slice ca C cc, .int .i64 en, .slice da D dc, .int .i64 wt, .int .i64 mo]) p) (t : TypeId) : ∀ W, Below (w.alloc (.cells #[.slice ca C cc, .int .i64 en, .slice da D dc, .int .i64 wt, .int .i64 mo] t)).heap.size (w.alloc (.cells #[.slice ca C cc, .int .i64 en, .slice da D dc, .int .i64 wt, .int .i64 mo] t)) W →
    (W.cell? ⟨w.heap.size, 0, none⟩ = some (.slice ca C cc) ∧ W.cell? ⟨w.heap.size, 1, none⟩ = some (.int .i64 en) ∧ W.cell? ⟨w.heap.size, 2, none⟩ = some (.slice da D dc) ∧ W.cell? ⟨w.heap.size, 3, none⟩ = some (.int .i64 wt) ∧ W.cell? ⟨w.heap.size, 4, none⟩ = some (.int .i64 mo)) ∧ IsImg A W (.agg #[.slice ca C cc, .int .i64 en, .slice da D dc, .int .i64 wt, .int .i64 mo]) p := fun W hW =>
  ⟨⟨cell_later' (new_cell' w _ t 0 _ rfl) hW, cell_later' (new_cell' w _ t 1 _ rfl) hW, cell_later' (new_cell' w _ t 2 _ rfl) hW, cell_later' (new_cell' w _ t 3 _ rfl) hW, cell_later' (new_cell' w _ t 4 _ rfl) hW⟩, (h.keep (Stay.of_below (keep_alloc8 (Below.refl _ _) _))).keep (Stay.of_below hW)⟩
/-- The row v' of the world w' came of the row v of w: it is one's own, nothing else that was there is turned. -/
structure Ext (base : Nat) (w : World) (v : Value) (w' : World) (v' : Value) (out : Bs) : Prop where
  own : OwnB base w' v' out
  gr : w.grownBy w' v.ownBlock
  wh : ∀ q, v'.ownBlock = some q → v.ownBlock = some q ∨ w.heap.size ≤ q
section
variable {base : Nat} {w w1 w2 : World} {v v1 v2 : Value} {out out' : Bs}
theorem Ext.refl (h : OwnB base w v out) : Ext base w v w v out := ⟨h, ⟨rfl, rfl, rfl, Nat.le_refl _, fun _ _ _ => rfl⟩, fun q hq => .inl hq⟩
theorem Ext.trans (h : Ext base w v w1 v1 out) (h' : Ext base w1 v1 w2 v2 out') : Ext base w v w2 v2 out' := by
  refine ⟨h'.own, ⟨h'.gr.os.trans h.gr.os, h'.gr.tape.trans h.gr.tape, h'.gr.output.trans h.gr.output, Nat.le_trans h.gr.size h'.gr.size, fun k hk hn => (h'.gr.block k (Nat.lt_of_lt_of_le hk h.gr.size) fun e => ?_).trans (h.gr.block k hk hn)⟩, fun q hq => ?_⟩
  · rcases h.wh k e.symm with h1 | h1
    · exact hn h1.symm
    · omega
  · rcases h'.wh q hq with h1 | h1
    · exact h.wh q h1
    · exact .inr (Nat.le_trans h.gr.size h1)
theorem Ext.later (h : Ext base w v w1 v1 out) (hb : Below w1.heap.size w1 w2) : Ext base w v w2 v1 out :=
  ⟨h.own.later hb, ⟨hb.os.trans h.gr.os, hb.tape.trans h.gr.tape, hb.output.trans h.gr.output, Nat.le_trans h.gr.size hb.size, fun k hk hn => (hb.block k (Nat.lt_of_lt_of_le hk h.gr.size)).trans (h.gr.block k hk hn)⟩, h.wh⟩
/-- What came of a world made later out of the first one. -/
theorem Ext.after (hb : Below w.heap.size w w1) (h : Ext base w1 v w2 v2 out) : Ext base w v w2 v2 out :=
  ⟨h.own, ⟨h.gr.os.trans hb.os, h.gr.tape.trans hb.tape, h.gr.output.trans hb.output, Nat.le_trans hb.size h.gr.size, fun k hk hn => (h.gr.block k (Nat.lt_of_lt_of_le hk hb.size) hn).trans (hb.block k hk)⟩, fun q hq => (h.wh q hq).imp id fun h => Nat.le_trans hb.size h⟩
theorem Ext.below (h : Ext base w v w1 v1 out) (hv : ∀ q, v.ownBlock = some q → base ≤ q) (hb : base ≤ w.heap.size) : Below base w w1 := Below.grown (Below.refl _ _) h.gr hb hv
theorem Ext.size (h : Ext base w v w1 v1 out) : w.heap.size ≤ w1.heap.size := h.gr.size
/-- A block that isn't the row's stands. -/
theorem Ext.xat (h : Ext base w v w1 v1 out) {X : Nat} {cs : List Value} (hx : XAt w X cs) (hX : X < w.heap.size) (hn : v.ownBlock ≠ some X) : XAt w1 X cs := hx.keep (h.gr.block X hX fun e => hn e.symm)
theorem Ext.not (h : Ext base w v w1 v1 out) {X : Nat} (hX : X < w.heap.size) (hn : v.ownBlock ≠ some X) : v1.ownBlock ≠ some X := fun e => by
  rcases h.wh X e with h1 | h1
  · exact hn h1
  · omega
end
theorem own_q {base : Nat} {w : World} {v : Value} {out : Bs} (h : OwnB base w v out) : ∀ q, v.ownBlock = some q → base ≤ q ∧ q < w.heap.size := fun q hq => World.ownsRow.lt h q hq
theorem dig_src {w : World} {base : Nat} {a : Option Addr} {c k : Nat} {x : Int} (h : w.ownsRow base 5 1 (.slice a k c) k (cellsK .u8 k fun i => x / 256 ^ i % 256)) : Src w a c (digL k x) := by
  have e : cellsK .u8 k (fun i => x / 256 ^ i % 256) = (digL k x).map fun z => .int .u8 z := by
    have h2 := cellsK_map .u8 (digL k x)
    rw [digL_len] at h2
    rw [← h2]
    exact cellsK_congr .u8 k fun j hj => (digL_get k x j hj).symm
  have hl := digL_len k x
  rw [e] at h
  refine src_own (base := base) ?_
  unfold OwnB
  rw [hl]; exact h
/-- 'append(out, l...)', told as Ext. -/
theorem wpList_ext {W : World} {ops : Array Oper} {rest : List Oper} {op : Oper} {a : Act} {Q : Exit → Act → World → Prop} (hgd : op.guard = none) (s x : Operand)
    (ho : op.op = .call { callee := .builtin .append, args := #[s, x], argTypes := #[23, 23] })
    (base : Nat) (v : Value) (out : Bs) (hs : a.eval s = v) (hown : OwnB base W v out) (sp : Option Addr) (m c : Nat) (l : Bs) (hx : a.eval x = .slice sp m c) (hl : l.length = m) (hsrc : Src W sp c l) (h63 : out.length + m ≤ 3000000) (hbase : base ≤ W.heap.size)
    (h : ∀ v' w', Ext base W v w' v' (out ++ l) → wpList Try.prog ops Q rest (a.put op.dst v') w') : wpList Try.prog ops Q (op :: rest) a W := by
  obtain ⟨i0, hi0, hz0, hz1, hz2⟩ := info_parts slB
  have hcells : (l.map fun x => Value.int .u8 x).length = m * 1 := by rw [List.length_map, hl, Nat.mul_one]
  have hone : ∀ u ∈ (l.map fun x => Value.int .u8 x), u.oneCell' = true := by intro u hu; obtain ⟨y, _, rfl⟩ := List.mem_map.mp hu; rfl
  have hr : ∃ a' cap' w', (Builtin.append_ #[23, 23] op.type #[v, .slice sp m c]).run Try.prog W = .ok (.slice a' (out.length + m) cap') w' ∧ w'.ownsRow base 5 1 (.slice a' (out.length + m) cap') (out.length + m) ((out.map fun x => .int .u8 x) ++ (l.map fun x => .int .u8 x)) ∧ W.grownBy w' v.ownBlock ∧ (∀ q, a' = some q → v.ownBlock = some q.block ∨ q.block = W.heap.size) := by
    cases sp with
    | none =>
      obtain ⟨rfl, rfl⟩ := hsrc.1 rfl
      subst hl
      obtain ⟨a, cap, rfl⟩ := own_form hown
      exact ⟨a, cap, W, run_append_owned_none (P := Try.prog) (w := W) base 23 op.type 5 i0 1 Try.underlying23 hi0 _ _ _ hown, by have h := hown; unfold OwnB at h; simpa using h, World.grownBy.refl W _, fun q e => .inl (by rw [e]; rfl)⟩
    | some ad =>
      obtain ⟨v', w', hr, h2, h3, _, h5⟩ := run_append_own_at (P := Try.prog) W base 23 op.type 5 i0 _ 1 1 Try.underlying23 hi0 hz0 hz1 hz2 rfl (by decide) v out.length _ hown ad m c _ hcells (hsrc.2 ad rfl) hone (by unfold maxLen; omega) (by omega) hbase
      obtain ⟨a, cap, rfl⟩ := own_form h2
      refine ⟨a, cap, w', hr, h2, h3, fun q e => ?_⟩
      subst e
      rcases h5 with h5 | h5
      · exact .inl (by rw [← h5]; rfl)
      · exact .inr (by simpa [Value.ownBlock] using h5)
  obtain ⟨a', cap', w', hr, h2, h3, h4⟩ := hr
  refine wpList_plain hgd fun _ hK => ?_
  unfold Oper.wp execOp
  simp only [ho, resolve, invoke, builtin, Sem.run_bind, Sem.run_pure, Result.andThen_ok, List.map_toArray, List.map_cons, List.map_nil, hs, hx, hr]
  refine hK _ _ (h _ w' ⟨?_, h3, fun q hq => ?_⟩)
  · unfold OwnB
    rw [List.length_append, hl, List.map_append]
    exact h2
  · obtain ⟨p, e1, e2⟩ := own_some hq
    rcases h4 p e1 with h | h
    · exact .inl (by rw [← e2]; exact h)
    · exact .inr (by omega)
/-- What a putter answers. -/
def Puts (base : Nat) (w : World) (v : Value) (l : Bs) (e : Ending) (w' : World) : Prop := ∃ v', e = .returned v' ∧ Ext base w v w' v' l
end Go.Proofs.Ytlpmkbdoofbmiaa
