/- What the code puts behind bytes. What the code puts behind bytes: relocations, notes, functions, data, and lists of them. What the code's own Write returns. -/
import Derived.Test.YtnejpldbokodaaaDoorObjRt1
import Derived.Test.YtnejpldbokodaaaDoorObjSpec
import Derived.Test.YtnejpldbokodaaaDoorObjWrite
import Derived.Test.YtnejpldbokodaaaDoorScanOwn
namespace Go.Proofs.YtnejpldbokodaaaDoor
open Go.ChangeShapes Go.WideShapes Go.ChangeAt Go.RowKit
set_option linter.unusedVariables false
set_option linter.unusedSimpArgs false
/-- The row v' of the world w' came of the row v of w: it is one's own, nothing else that was there is turned. -/
structure Ext (base : Nat) (w : World) (v : Value) (w' : World) (v' : Value) (out : Bs) : Prop where
  own : OwnB base w' v' out
  gr : w.grownBy w' v.ownBlock
  wh : ∀ q, v'.ownBlock = some q → v.ownBlock = some q ∨ w.heap.size ≤ q
section
variable {base : Nat} {w w1 w2 : World} {v v1 v2 : Value} {out out' : Bs}
theorem Ext.refl (h : OwnB base w v out) : Ext base w v w v out := ⟨h, ⟨rfl, rfl, rfl, Nat.le_refl _, fun _ _ _ => rfl⟩, fun q hq => .inl hq⟩
theorem Ext.trans (h : Ext base w v w1 v1 out) (h' : Ext base w1 v1 w2 v2 out') : Ext base w v w2 v2 out' := by
  refine ⟨h'.own, ⟨h'.gr.os.trans h.gr.os, h'.gr.tape.trans h.gr.tape, h'.gr.output.trans h.gr.output, Nat.le_trans h.gr.size h'.gr.size, fun k hk hn => (h'.gr.block k (Nat.lt_of_lt_of_le hk h.gr.size) fun e => ?_).trans (h.gr.block k hk hn)⟩, fun q hq => ?_⟩
  · rcases h.wh k e.symm with h1 | h1
    · exact hn h1.symm
    · omega
  · rcases h'.wh q hq with h1 | h1
    · exact h.wh q h1
    · exact .inr (Nat.le_trans h.gr.size h1)
theorem Ext.later (h : Ext base w v w1 v1 out) (hb : Below w1.heap.size w1 w2) : Ext base w v w2 v1 out :=
  ⟨h.own.later hb, ⟨hb.os.trans h.gr.os, hb.tape.trans h.gr.tape, hb.output.trans h.gr.output, Nat.le_trans h.gr.size hb.size, fun k hk hn => (hb.block k (Nat.lt_of_lt_of_le hk h.gr.size)).trans (h.gr.block k hk hn)⟩, h.wh⟩
/-- What came of a world made later out of the first one. -/
theorem Ext.after (hb : Below w.heap.size w w1) (h : Ext base w1 v w2 v2 out) : Ext base w v w2 v2 out :=
  ⟨h.own, ⟨h.gr.os.trans hb.os, h.gr.tape.trans hb.tape, h.gr.output.trans hb.output, Nat.le_trans hb.size h.gr.size, fun k hk hn => (h.gr.block k (Nat.lt_of_lt_of_le hk hb.size) hn).trans (hb.block k hk)⟩, fun q hq => (h.wh q hq).imp id fun h => Nat.le_trans hb.size h⟩
theorem Ext.below (h : Ext base w v w1 v1 out) (hv : ∀ q, v.ownBlock = some q → base ≤ q) (hb : base ≤ w.heap.size) : Below base w w1 := Below.grown (Below.refl _ _) h.gr hb hv
theorem Ext.size (h : Ext base w v w1 v1 out) : w.heap.size ≤ w1.heap.size := h.gr.size
/-- A block that isn't the row's stands. -/
theorem Ext.xat (h : Ext base w v w1 v1 out) {X : Nat} {cs : List Value} (hx : XAt w X cs) (hX : X < w.heap.size) (hn : v.ownBlock ≠ some X) : XAt w1 X cs := hx.keep (h.gr.block X hX fun e => hn e.symm)
theorem Ext.not (h : Ext base w v w1 v1 out) {X : Nat} (hX : X < w.heap.size) (hn : v.ownBlock ≠ some X) : v1.ownBlock ≠ some X := fun e => by
  rcases h.wh X e with h1 | h1
  · exact hn h1
  · omega
end
theorem own_q {base : Nat} {w : World} {v : Value} {out : Bs} (h : OwnB base w v out) : ∀ q, v.ownBlock = some q → base ≤ q ∧ q < w.heap.size := fun q hq => World.ownsRow.lt h q hq
theorem dig_src {w : World} {base : Nat} {a : Option Addr} {c k : Nat} {x : Int} (h : w.ownsRow base 5 1 (.slice a k c) k (cellsK .u8 k fun i => x / 256 ^ i % 256)) : Src w a c (digL k x) := by
  have e : cellsK .u8 k (fun i => x / 256 ^ i % 256) = (digL k x).map fun z => .int .u8 z := by
    have h2 := cellsK_map .u8 (digL k x)
    rw [digL_len] at h2
    rw [← h2]
    exact cellsK_congr .u8 k fun j hj => (digL_get k x j hj).symm
  have hl := digL_len k x
  rw [e] at h
  refine src_own (base := base) ?_
  unfold OwnB
  rw [hl]; exact h
theorem name_src {w : World} {base : Nat} {a : Option Addr} {c : Nat} {s : ByteArray} (hs : s.size ≤ 255) (h : w.ownsRow base 5 1 (.slice a (s.size + 1) c) (s.size + 1) (cellsK .u8 (s.size + 1) fun i => if i = 0 then (s.size : Int) else byteZ s (i - 1))) : Src w a c (nameW s) := by
  have hl : (nameW s).length = s.size + 1 := by rw [nameW_len]; omega
  have e : cellsK .u8 (s.size + 1) (fun i => if i = 0 then (s.size : Int) else byteZ s (i - 1)) = (nameW s).map fun z => .int .u8 z := by
    have h2 := cellsK_map .u8 (nameW s)
    rw [hl] at h2
    rw [← h2]
    refine cellsK_congr .u8 _ fun j hj => ?_
    have e1 : nameW s = (s.size : Int) :: bytesL s := by unfold nameW; rw [dig1 (by omega) (by omega)]; rfl
    rw [e1]
    rcases j with _ | j
    · rfl
    · rw [if_neg (by omega)]
      show byteZ s (j + 1 - 1) = gF (bytesL s) j
      have hj' : j < s.data.size := by have : s.size = s.data.size := rfl; omega
      have hb : j < (bytesL s).length := by rw [bytesL_len]; exact hj'
      have h3 := gF_get hb
      have h5 : s.data[j]? = some s.data[j] := Array.getElem?_eq_getElem hj'
      have h4 : (bytesL s)[j]? = some ((s.data[j]).toNat : Int) := by simp [bytesL, h5]
      rw [h4] at h3
      rw [← Option.some.inj h3]
      simp [byteZ, h5]
  rw [e] at h
  refine src_own (base := base) ?_
  unfold OwnB
  rw [hl]; exact h
/-- 'append(out, l...)', told as Ext. -/
theorem wpList_ext {W : World} {ops : Array Oper} {rest : List Oper} {op : Oper} {a : Act} {Q : Exit → Act → World → Prop} (hgd : op.guard = none) (s x : Operand)
    (ho : op.op = .call { callee := .builtin .append, args := #[s, x], argTypes := #[22, 22] })
    (base : Nat) (v : Value) (out : Bs) (hs : a.eval s = v) (hown : OwnB base W v out) (sp : Option Addr) (m c : Nat) (l : Bs) (hx : a.eval x = .slice sp m c) (hl : l.length = m) (hsrc : Src W sp c l) (h63 : out.length + m ≤ 3000000) (hbase : base ≤ W.heap.size)
    (h : ∀ v' w', Ext base W v w' v' (out ++ l) → wpList Tryd.prog ops Q rest (a.put op.dst v') w') : wpList Tryd.prog ops Q (op :: rest) a W := by
  obtain ⟨i0, hi0, hz0, hz1, hz2⟩ := info_parts slB
  have hcells : (l.map fun x => Value.int .u8 x).length = m * 1 := by rw [List.length_map, hl, Nat.mul_one]
  have hone : ∀ u ∈ (l.map fun x => Value.int .u8 x), u.oneCell' = true := by intro u hu; obtain ⟨y, _, rfl⟩ := List.mem_map.mp hu; rfl
  have hr : ∃ a' cap' w', (Builtin.append_ #[22, 22] op.type #[v, .slice sp m c]).run Tryd.prog W = .ok (.slice a' (out.length + m) cap') w' ∧ w'.ownsRow base 5 1 (.slice a' (out.length + m) cap') (out.length + m) ((out.map fun x => .int .u8 x) ++ (l.map fun x => .int .u8 x)) ∧ W.grownBy w' v.ownBlock ∧ (∀ q, a' = some q → v.ownBlock = some q.block ∨ q.block = W.heap.size) := by
    cases sp with
    | none =>
      obtain ⟨rfl, rfl⟩ := hsrc.1 rfl
      subst hl
      obtain ⟨a, cap, rfl⟩ := own_form hown
      exact ⟨a, cap, W, run_append_owned_none (P := Tryd.prog) (w := W) base 22 op.type 5 i0 1 Tryd.underlying22 hi0 _ _ _ hown, by have h := hown; unfold OwnB at h; simpa using h, World.grownBy.refl W _, fun q e => .inl (by rw [e]; rfl)⟩
    | some ad =>
      obtain ⟨v', w', hr, h2, h3, _, h5⟩ := run_append_own_at (P := Tryd.prog) W base 22 op.type 5 i0 _ 1 1 Tryd.underlying22 hi0 hz0 hz1 hz2 rfl (by decide) v out.length _ hown ad m c _ hcells (hsrc.2 ad rfl) hone (by unfold maxLen; omega) (by omega) hbase
      obtain ⟨a, cap, rfl⟩ := own_form h2
      refine ⟨a, cap, w', hr, h2, h3, fun q e => ?_⟩
      subst e
      rcases h5 with h5 | h5
      · exact .inl (by rw [← h5]; rfl)
      · exact .inr (by simpa [Value.ownBlock] using h5)
  obtain ⟨a', cap', w', hr, h2, h3, h4⟩ := hr
  refine wpList_plain hgd fun _ hK => ?_
  unfold Oper.wp execOp
  simp only [ho, resolve, invoke, builtin, Sem.run_bind, Sem.run_pure, Result.andThen_ok, List.map_toArray, List.map_cons, List.map_nil, hs, hx, hr]
  refine hK _ _ (h _ w' ⟨?_, h3, fun q hq => ?_⟩)
  · unfold OwnB
    rw [List.length_append, hl, List.map_append]
    exact h2
  · obtain ⟨p, e1, e2⟩ := own_some hq
    rcases h4 p e1 with h | h
    · exact .inl (by rw [← e2]; exact h)
    · exact .inr (by omega)
/-- What a putter answers. -/
def Puts (base : Nat) (w : World) (v : Value) (l : Bs) (e : Ending) (w' : World) : Prop := ∃ v', e = .returned v' ∧ Ext base w v w' v' l
section
variable {base : Nat} {w : World} {v u : Value} {out : Bs}
theorem put_num (hown : OwnB base w v out) (hbase : base ≤ w.heap.size) (x : Int) (k : Nat) (x0 : 0 ≤ x) (x1 : x < 4294967296) (k0 : 1 ≤ k) (k1 : k ≤ 4) (hsz : out.length + k ≤ 3000000) :
    Calls Tryd.prog 51 #[v, .int .i64 x, .int .i64 k] w (Puts base w v (out ++ digL k x)) := by
  have PU : Hid (∀ W, Calls Tryd.prog 71 #[.int .i64 x, .int .i64 k] W fun e w' => ∃ a c, e = .returned (.slice a k c) ∧ w'.ownsRow W.heap.size 5 1 (.slice a k c) k (cellsK .u8 k fun i => x / 256 ^ i % 256) ∧ Below W.heap.size W w') := fun W => put_own x k W x0 x1 k0 k1
  have HO : Hid (OwnB base w v out) := hown
  have HB : Hid (base ≤ w.heap.size ∧ out.length + k ≤ 3000000) := ⟨hbase, hsz⟩
  clear hown x0 x1 k0 k1 hsz hbase
  go_enter Tryd.func51, Tryd.ntmps51
  go_wp2_with (first
    | (go_at_call 71; refine (PU.out _).mono ?_; rintro e w1 ⟨a1, c1, rfl, o1, b1⟩)
    | (at_builtin; refine wpList_ext rfl (.tmp 7) (.tmp 10) rfl base v out rfl (HO.out.later b1) a1 k c1 (digL k x) rfl (digL_len _ _) (dig_src o1) HB.out.2 (Nat.le_trans HB.out.1 b1.size) ?_; intro v2 w2 X2))
  go_ret
  exact ⟨v2, rfl, Ext.after b1 X2⟩
/-- The first one, behind a literal. -/
theorem put_num0 {q cap : Nat} {l : Bs} (hc : ∀ W, Below w.heap.size w W → ∀ b, some (⟨q, 0, none⟩ : Addr) = some b → ∀ j u, (l.map fun x => Value.int .u8 x)[j]? = some u → W.cell? (b.add j) = some u) (hl : l.length = cap) (hl2 : cap ≤ 1000) (x : Int) (k : Nat) (x0 : 0 ≤ x) (x1 : x < 4294967296) (k0 : 1 ≤ k) (k1 : k ≤ 4) :
    Calls Tryd.prog 51 #[.slice (some ⟨q, 0, none⟩) cap cap, .int .i64 x, .int .i64 k] w fun e w' => ∃ v', e = .returned v' ∧ OwnB w.heap.size w' v' (l ++ digL k x) ∧ Below w.heap.size w w' := by
  have PU : Hid (∀ W, Calls Tryd.prog 71 #[.int .i64 x, .int .i64 k] W fun e w' => ∃ a c, e = .returned (.slice a k c) ∧ w'.ownsRow W.heap.size 5 1 (.slice a k c) k (cellsK .u8 k fun i => x / 256 ^ i % 256) ∧ Below W.heap.size W w') := fun W => put_own x k W x0 x1 k0 k1
  have HC : Hid (∀ W, Below w.heap.size w W → ∀ b, some (⟨q, 0, none⟩ : Addr) = some b → ∀ j u, (l.map fun x => Value.int .u8 x)[j]? = some u → W.cell? (b.add j) = some u) := hc
  have HB : Hid ((1 ≤ k ∧ k ≤ 4) ∧ l.length = cap ∧ cap ≤ 1000) := ⟨⟨k0, k1⟩, hl, hl2⟩
  obtain ⟨i0, hi0, hz0, hz1, hz2⟩ := info_parts slB
  clear hc x0 x1 k0 k1 hl hl2
  go_enter Tryd.func51, Tryd.ntmps51
  go_wp2_with (first
    | (go_at_call 71; refine (PU.out _).mono ?_; rintro e w1 ⟨a1, c1, rfl, o1, b1⟩; obtain ⟨p1, rfl⟩ : ∃ p, a1 = some p := by (cases a1 with | none => exact absurd ((dig_src o1).1 rfl).1 (fun e => by have h := congrArg List.length e; rw [digL_len] at h; have := HB.out.1.1; simp at h; omega) | some p => exact ⟨p, rfl⟩))
    | (at_builtin; refine wpList_append_grows _ rfl (.tmp 7) (.tmp 10) 22 rfl 5 i0 _ 1 1 Tryd.underlying22 hi0 hz0 hz1 hz2 rfl (by decide) (some ⟨q, 0, none⟩) cap cap (l.map fun x => .int .u8 x) rfl (fun e => by cases e) (by rw [List.length_map, HB.out.2.1, Nat.mul_one]) (HC.out _ b1) p1 k c1 ((digL k x).map fun x => .int .u8 x) rfl (by rw [List.length_map, digL_len, Nat.mul_one]) ((dig_src o1).2 _ rfl) (by intro u hu; obtain ⟨y, _, rfl⟩ := List.mem_map.mp hu; rfl) (by have := HB.out; omega) (by unfold maxLen; have := HB.out; omega) (by have := HB.out; omega) ?_; intro v3 w3 o3 g3))
  go_ret
  refine ⟨v3, rfl, ?_, Below.grown b1 g3 b1.size (fun q hq => by cases hq)⟩
  refine own_less (base := w1.heap.size) ?_ b1.size
  rw [List.length_append, HB.out.2.1, digL_len, List.map_append]
  exact o3
theorem put_name (hown : OwnB base w v out) (hbase : base ≤ w.heap.size) (s : ByteArray) (hs : namedB s = true) (hsz : out.length + (nameW s).length ≤ 3000000) :
    Calls Tryd.prog 52 #[v, .string s] w (Puts base w v (out ++ nameW s)) := by
  have PU : Hid (∀ W, Calls Tryd.prog 72 #[.string s] W fun e w' => ∃ a c, e = .returned (.slice a (s.size + 1) c) ∧ w'.ownsRow W.heap.size 5 1 (.slice a (s.size + 1) c) (s.size + 1) (cellsK .u8 (s.size + 1) fun i => if i = 0 then (s.size : Int) else byteZ s (i - 1)) ∧ Below W.heap.size W w') := fun W => putname_own s W hs
  have HO : Hid (OwnB base w v out) := hown
  have HN : Hid ((nameW s).length = s.size + 1) := by rw [nameW_len]; unfold Hid; omega
  have HB : Hid (base ≤ w.heap.size ∧ out.length + (s.size + 1) ≤ 3000000 ∧ s.size ≤ 255) := ⟨hbase, by rw [HN.out] at hsz; exact hsz, by have := named_len hs; omega⟩
  clear hown hsz hbase hs
  go_enter Tryd.func52, Tryd.ntmps52
  go_wp2_with (first
    | (go_at_call 72; refine (PU.out _).mono ?_; rintro e w1 ⟨a1, c1, rfl, o1, b1⟩)
    | (at_builtin; refine wpList_ext rfl (.tmp 5) (.tmp 7) rfl base v out rfl (HO.out.later b1) a1 (s.size + 1) c1 (nameW s) rfl HN.out (name_src HB.out.2.2 o1) HB.out.2.1 (Nat.le_trans HB.out.1 b1.size) ?_; intro v2 w2 X2))
  go_ret
  exact ⟨v2, rfl, Ext.after b1 X2⟩
theorem put_word (hown : OwnB base w v out) (hbase : base ≤ w.heap.size) (x : Int) (x0 : 0 ≤ x) (x1 : x < 4294967296) (hsz : out.length + 4 ≤ 3000000) :
    Calls Tryd.prog 54 #[v, .int .u32 x] w (Puts base w v (out ++ digL 4 x)) := by
  have PN : Hid (Calls Tryd.prog 51 #[v, .int .i64 x, .int .i64 (4 : Nat)] w (Puts base w v (out ++ digL 4 x))) := put_num hown hbase x 4 x0 x1 (by omega) (by omega) hsz
  have hw : IntKind.i64.wrap x = x := wrap_small x0 x1
  clear hown hbase hsz x0 x1
  go_enter Tryd.func54, Tryd.ntmps54
  go_wp2_with (go_at_call 51; refine PN.out.mono ?_; rintro e w1 ⟨v1, rfl, X1⟩)
  go_ret
  exact ⟨v1, rfl, X1⟩
theorem flag_any (c : Bool) (w : World) : Calls Tryd.prog 57 #[.bool c] w fun e w' => e = .returned (.int .i64 (fixW c)) ∧ w' = w := by
  cases c
  · go_enter Tryd.func57, Tryd.ntmps57
    go_wp2
    go_ret
    exact ⟨rfl, rfl⟩
  · go_enter Tryd.func57, Tryd.ntmps57
    go_wp2
    go_ret
    exact ⟨rfl, rfl⟩
end
open Go.ChangeShapes Go.WideShapes Go.ChangeAt Go.RowKit
set_option linter.unusedVariables false
set_option linter.unusedSimpArgs false
theorem words_len (l : List Int) : (listW (digL 4) l).length = 2 + 4 * l.length := by unfold listW; rw [List.length_append, digL_len, flat4_len]
section
variable {A : Nat → Prop} {base : Nat} {w0 w : World} {v u vl : Value} {out : Bs}
set_option maxRecDepth 100000 in
set_option maxHeartbeats 2000000 in
theorem put_rel {r : RelM} (h : RelV u r) (ok : relOk r) (hown : OwnB base w v out) (hbase : base ≤ w.heap.size) (hsz : out.length + (relW r).length ≤ 3000000) :
    Calls Tryd.prog 56 #[v, u] w (Puts base w v (out ++ relW r)) := by
  obtain ⟨rfl, -⟩ := h
  obtain ⟨xa, xk, xn, xd⟩ := r
  obtain ⟨⟨ka0, ka1⟩, ⟨kk0, kk1⟩, kn, kd0, kd1⟩ := ok
  dsimp only at *
  have OK : Hid (namedB xn = true ∧ (0 ≤ xa ∧ xa ≤ 65535) ∧ (0 ≤ xk ∧ xk ≤ 255) ∧ -1048576 ≤ xd ∧ xd ≤ 1048576) := ⟨kn, ⟨ka0, ka1⟩, ⟨kk0, kk1⟩, kd0, kd1⟩
  have SZ : Hid (out.length + (8 + xn.size) ≤ 3000000) := by rw [relW_len] at hsz; exact hsz
  clear hsz kn ka0 ka1 kk0 kk1
  have UP : Hid (Below w.heap.size w (w.alloc (.cells #[.int .i64 xa, .int .i64 xk, .string xn, .int .i64 xd] 36))) := keep_alloc8 (Below.refl _ _) _
  have X1 : Hid (XAt (w.alloc (.cells #[.int .i64 xa, .int .i64 xk, .string xn, .int .i64 xd] 36)) w.heap.size [.int .i64 xa, .int .i64 xk, .string xn, .int .i64 xd]) := XAt.new _ _ _
  have hX : Hid (w.heap.size < (w.alloc (.cells #[.int .i64 xa, .int .i64 xk, .string xn, .int .i64 xd] 36)).heap.size) := by unfold Hid; simp
  have HNO : Hid (v.ownBlock ≠ some w.heap.size ∧ ∀ q, v.ownBlock = some q → base ≤ q) := ⟨fun e => by have := (own_q hown _ e).2; omega, fun q hq => (own_q hown q hq).1⟩
  have E0 : Hid (Ext base (w.alloc (.cells #[.int .i64 xa, .int .i64 xk, .string xn, .int .i64 xd] 36)) v (w.alloc (.cells #[.int .i64 xa, .int .i64 xk, .string xn, .int .i64 xd] 36)) v out) := Ext.refl (hown.later UP.out)
  have HB : Hid (base ≤ (w.alloc (.cells #[.int .i64 xa, .int .i64 xk, .string xn, .int .i64 xd] 36)).heap.size) := Nat.le_trans hbase UP.out.size
  clear hown hbase
  go_enter Tryd.func56, Tryd.ntmps56
  go_upto_region 1 with fail
  generalize w.alloc (.cells #[.int .i64 xa, .int .i64 xk, .string xn, .int .i64 xd] 36) = w00 at UP X1 hX E0 HB ⊢
  have y0 := X1.out.1 0 _ rfl
  have y1 := X1.out.1 1 _ rfl
  have y2 := X1.out.1 2 _ rfl
  have y3 := X1.out.1 3 _ rfl
  go_wp2_with (first
    | (have q := E3; go_at_call 51; refine (put_num E3.out.own (Nat.le_trans HB.out E3.out.size) (xd + 2147483648) 4 (by have := OK.out; omega) (by have := OK.out; omega) (by omega) (by omega) (by (try simp only [List.length_append, digL_len, nameW_len]); have := SZ.out; omega)).mono ?_; rintro e w4 ⟨v4, rfl, Z⟩; have E4 : Hid (Ext base w00 v w4 v4 (out ++ digL 2 xa ++ digL 1 xk ++ nameW xn ++ digL 4 (xd + 2147483648))) := E3.out.trans Z; clear Z; have y0 := (E4.out.xat X1.out hX.out HNO.out.1).1 0 _ rfl; have y1 := (E4.out.xat X1.out hX.out HNO.out.1).1 1 _ rfl; have y2 := (E4.out.xat X1.out hX.out HNO.out.1).1 2 _ rfl; have y3 := (E4.out.xat X1.out hX.out HNO.out.1).1 3 _ rfl)
    | (have q := E2; go_at_call 52; refine (put_name E2.out.own (Nat.le_trans HB.out E2.out.size) xn OK.out.1 (by (try simp only [List.length_append, digL_len, nameW_len]); have := SZ.out; omega)).mono ?_; rintro e w3 ⟨v3, rfl, Z⟩; have E3 : Hid (Ext base w00 v w3 v3 (out ++ digL 2 xa ++ digL 1 xk ++ nameW xn)) := E2.out.trans Z; clear Z; have y0 := (E3.out.xat X1.out hX.out HNO.out.1).1 0 _ rfl; have y1 := (E3.out.xat X1.out hX.out HNO.out.1).1 1 _ rfl; have y2 := (E3.out.xat X1.out hX.out HNO.out.1).1 2 _ rfl; have y3 := (E3.out.xat X1.out hX.out HNO.out.1).1 3 _ rfl)
    | (have q := E1; go_at_call 51; refine (put_num E1.out.own (Nat.le_trans HB.out E1.out.size) (xk) 1 (by have := OK.out; omega) (by have := OK.out; omega) (by omega) (by omega) (by (try simp only [List.length_append, digL_len, nameW_len]); have := SZ.out; omega)).mono ?_; rintro e w2 ⟨v2, rfl, Z⟩; have E2 : Hid (Ext base w00 v w2 v2 (out ++ digL 2 xa ++ digL 1 xk)) := E1.out.trans Z; clear Z; have y0 := (E2.out.xat X1.out hX.out HNO.out.1).1 0 _ rfl; have y1 := (E2.out.xat X1.out hX.out HNO.out.1).1 1 _ rfl; have y2 := (E2.out.xat X1.out hX.out HNO.out.1).1 2 _ rfl; have y3 := (E2.out.xat X1.out hX.out HNO.out.1).1 3 _ rfl)
    | (have q := E0; go_at_call 51; refine (put_num E0.out.own (Nat.le_trans HB.out E0.out.size) (xa) 2 (by have := OK.out; omega) (by have := OK.out; omega) (by omega) (by omega) (by (try simp only [List.length_append, digL_len, nameW_len]); have := SZ.out; omega)).mono ?_; rintro e w1 ⟨v1, rfl, Z⟩; have E1 : Hid (Ext base w00 v w1 v1 (out ++ digL 2 xa)) := E0.out.trans Z; clear Z; have y0 := (E1.out.xat X1.out hX.out HNO.out.1).1 0 _ rfl; have y1 := (E1.out.xat X1.out hX.out HNO.out.1).1 1 _ rfl; have y2 := (E1.out.xat X1.out hX.out HNO.out.1).1 2 _ rfl; have y3 := (E1.out.xat X1.out hX.out HNO.out.1).1 3 _ rfl))
  go_ret
  have e : out ++ relW ⟨xa, xk, xn, xd⟩ = out ++ digL 2 xa ++ digL 1 xk ++ nameW xn ++ digL 4 (xd + 2147483648) := by unfold relW; simp only [List.append_assoc]
  rw [e]
  exact ⟨v4, rfl, Ext.after UP.out E4.out⟩
set_option maxRecDepth 100000 in
set_option maxHeartbeats 2000000 in
theorem put_note {x : NoteM} (h : NoteV u x) (ok : noteOk x) (hown : OwnB base w v out) (hbase : base ≤ w.heap.size) (hsz : out.length + (noteW x).length ≤ 3000000) :
    Calls Tryd.prog 38 #[v, u] w (Puts base w v (out ++ noteW x)) := by
  obtain ⟨rfl, -⟩ := h
  obtain ⟨xn, xk⟩ := x
  obtain ⟨kn, kk0, kk1⟩ := ok
  dsimp only at *
  have OK : Hid (namedB xn = true ∧ (0 ≤ xk ∧ xk ≤ 255)) := ⟨kn, kk0, kk1⟩
  have SZ : Hid (out.length + (2 + xn.size) ≤ 3000000) := by rw [noteW_len] at hsz; exact hsz
  clear hsz kn kk0 kk1
  have UP : Hid (Below w.heap.size w (w.alloc (.cells #[.string xn, .int .i64 xk] 75))) := keep_alloc8 (Below.refl _ _) _
  have X1 : Hid (XAt (w.alloc (.cells #[.string xn, .int .i64 xk] 75)) w.heap.size [.string xn, .int .i64 xk]) := XAt.new _ _ _
  have hX : Hid (w.heap.size < (w.alloc (.cells #[.string xn, .int .i64 xk] 75)).heap.size) := by unfold Hid; simp
  have HNO : Hid (v.ownBlock ≠ some w.heap.size ∧ ∀ q, v.ownBlock = some q → base ≤ q) := ⟨fun e => by have := (own_q hown _ e).2; omega, fun q hq => (own_q hown q hq).1⟩
  have E0 : Hid (Ext base (w.alloc (.cells #[.string xn, .int .i64 xk] 75)) v (w.alloc (.cells #[.string xn, .int .i64 xk] 75)) v out) := Ext.refl (hown.later UP.out)
  have HB : Hid (base ≤ (w.alloc (.cells #[.string xn, .int .i64 xk] 75)).heap.size) := Nat.le_trans hbase UP.out.size
  clear hown hbase
  go_enter Tryd.func38, Tryd.ntmps38
  go_upto_region 1 with fail
  generalize w.alloc (.cells #[.string xn, .int .i64 xk] 75) = w00 at UP X1 hX E0 HB ⊢
  have y0 := X1.out.1 0 _ rfl
  have y1 := X1.out.1 1 _ rfl
  go_wp2_with (first
    | (have q := E1; go_at_call 51; refine (put_num E1.out.own (Nat.le_trans HB.out E1.out.size) (xk) 1 (by have := OK.out; omega) (by have := OK.out; omega) (by omega) (by omega) (by (try simp only [List.length_append, digL_len, nameW_len]); have := SZ.out; omega)).mono ?_; rintro e w2 ⟨v2, rfl, Z⟩; have E2 : Hid (Ext base w00 v w2 v2 (out ++ nameW xn ++ digL 1 xk)) := E1.out.trans Z; clear Z; have y0 := (E2.out.xat X1.out hX.out HNO.out.1).1 0 _ rfl; have y1 := (E2.out.xat X1.out hX.out HNO.out.1).1 1 _ rfl)
    | (have q := E0; go_at_call 52; refine (put_name E0.out.own (Nat.le_trans HB.out E0.out.size) xn OK.out.1 (by (try simp only [List.length_append, digL_len, nameW_len]); have := SZ.out; omega)).mono ?_; rintro e w1 ⟨v1, rfl, Z⟩; have E1 : Hid (Ext base w00 v w1 v1 (out ++ nameW xn)) := E0.out.trans Z; clear Z; have y0 := (E1.out.xat X1.out hX.out HNO.out.1).1 0 _ rfl; have y1 := (E1.out.xat X1.out hX.out HNO.out.1).1 1 _ rfl))
  go_ret
  have e : out ++ noteW ⟨xn, xk⟩ = out ++ nameW xn ++ digL 1 xk := by unfold noteW; simp only [List.append_assoc]
  rw [e]
  exact ⟨v2, rfl, Ext.after UP.out E2.out⟩
set_option maxRecDepth 100000 in
set_option maxHeartbeats 2000000 in
theorem put_words0 {l : List Int} {T : Bs} (N : World → Value → Prop) (h : IsWords A w0 vl l) (h0 : w0.heap.size ≤ base) (hlow : Below base w0 w) (hl : l.length ≤ 65535) (ok : True)
    (NM : Calls Tryd.prog 51 #[v, .int .i64 l.length, .int .i64 2] w fun e w1 => ∃ v1, e = .returned v1 ∧ N w1 v1) (hN : ∀ w1 v1, N w1 v1 → OwnB base w1 v1 T ∧ Below base w w1 ∧ base ≤ w1.heap.size) (hsz : T.length + (flatW (digL 4) l).length ≤ 3000000) :
    Calls Tryd.prog 53 #[v, vl, .func (.func 54) #[] #[]] w fun e w' => ∃ w1 v1 v', N w1 v1 ∧ e = .returned v' ∧ Ext base w1 v1 w' v' (T ++ flatW (digL 4) l) := by
  obtain ⟨a, c, rfl, lm, -, lx⟩ := LstA.open h.1
  obtain ⟨n, en⟩ : ∃ n, l.length = n := ⟨_, rfl⟩
  rw [en] at lm lx hl NM ⊢
  have LX : Hid (∀ k, k < n → ∃ b off x, a = some ⟨b, off, none⟩ ∧ A b ∧ l[k]? = some x ∧ NumAt .u32 w0 b (off + k * 1) x) := lx
  have EN : Hid (l.length = n) := en
  have HLOW : Hid (w0.heap.size ≤ base ∧ Below base w0 w) := ⟨h0, hlow⟩
  have HNM : Hid (Calls Tryd.prog 51 #[v, .int .i64 n, .int .i64 2] w fun e w1 => ∃ v1, e = .returned v1 ∧ N w1 v1) := NM
  have HN : Hid (∀ w1 v1, N w1 v1 → OwnB base w1 v1 T ∧ Below base w w1 ∧ base ≤ w1.heap.size) := hN
  have HZ : Hid (T.length + (flatW (digL 4) l).length ≤ 3000000) := hsz
  have HOK := Hid.mk0 ok
  have HW := Hid.mk0 h.2
  have hn : (n : Int) ≤ 65535 := by omega
  clear h lx en lm h0 hlow NM hN hsz ok
  go_enter Tryd.func53, Tryd.ntmps53
  go_wp2_with (go_at_call 51; refine HNM.out.mono ?_; rintro e w1 ⟨v1, rfl, hN1⟩)
  have N1 := Hid.mk0 hN1
  obtain ⟨o1, b1, s1⟩ := HN.out w1 v1 hN1
  have Z1 : Hid (Ext base w1 v1 w1 v1 T) := Ext.refl o1
  have LB : Hid (Below base w0 w1 ∧ base ≤ w1.heap.size ∧ ∀ q, v1.ownBlock = some q → base ≤ q) := ⟨HLOW.out.2.trans b1, s1, fun q hq => (own_q o1 q hq).1⟩
  clear hN1 o1 b1 s1
  go_loopw [0, 15] (fun ov iv wr => ∃ k : Nat, k ≤ n ∧ iv = .int .i64 k ∧ Ext base w1 v1 wr ov (T ++ flatW (digL 4) (l.take k))) (fun _ iv _ => n - (intOf iv).toNat)
  case atStart => exact ⟨0, Nat.zero_le _, rfl, by rw [List.take_zero]; show Ext base w1 v1 w1 v1 (T ++ []); rw [List.append_nil]; exact Z1.out⟩
  case round =>
    obtain ⟨k, hk, rfl, he⟩ := hrel
    have HE := Hid.mk0 he
    clear he Z1
    by_cases hlt : k < n
    · have hlt' : (k : Int) < n := by omega
      obtain ⟨q, off, z, rfl, -, hx, x0⟩ := LX.out k hlt
      unfold NumAt at x0
      rw [Nat.mul_one] at x0
      have hzb := HW.out z (List.mem_of_getElem? hx)
      have HZB := Hid.mk0 hzb
      clear hzb
      have HX : Hid (l[k]? = some z) := hx
      have SZ2 : Hid ((T ++ flatW (digL 4) (l.take k)).length + ((digL 4) z).length ≤ 3000000) := by
        have h1 := flat_le2 (wr := (digL 4)) hx
        have := HZ.out
        unfold Hid
        rw [List.length_append]
        omega
      have BW : Hid (Below base w0 wr) := LB.out.1.trans (HE.out.below LB.out.2.2 LB.out.2.1)
      replace x0 := cell_base x0 BW.out (Nat.lt_of_lt_of_le (World.block_lt_of_cell? w0 _ x0) HLOW.out.1)
      clear hx
      go_wp2_with (go_at_call 54; refine (put_word HE.out.own (Nat.le_trans LB.out.2.1 HE.out.size) z HZB.out.1 HZB.out.2 (by have := SZ2.out; rw [digL_len] at this; exact this)).mono ?_; rintro e w3 ⟨v3, rfl, Z⟩)
      go_roundw
      case rel => exact ⟨k + 1, by omega, by go_num, by rw [flat_next HX.out, ← List.append_assoc]; exact HE.out.trans Z⟩
      case measure => simp [intOf]; omega
    · obtain rfl : k = n := by omega
      go_wp2
      go_ret
      have h := HE.out
      rw [← EN.out, List.take_length] at h
      exact ⟨w1, v1, _, N1.out, rfl, h⟩
theorem put_words {l : List Int} (h : IsWords A w0 vl l) (h0 : w0.heap.size ≤ base) (hlow : Below base w0 w) (hown : OwnB base w v out) (hbase : base ≤ w.heap.size) (hl : l.length ≤ 65535) (ok : True) (hsz : out.length + (listW (digL 4) l).length ≤ 3000000) :
    Calls Tryd.prog 53 #[v, vl, .func (.func 54) #[] #[]] w (Puts base w v (out ++ listW (digL 4) l)) := by
  have e : listW (digL 4) l = digL 2 (l.length : Int) ++ flatW (digL 4) l := rfl
  have hz : out.length + 2 + (flatW (digL 4) l).length ≤ 3000000 := by rw [e, List.length_append, digL_len] at hsz; omega
  have hq : ∀ q, v.ownBlock = some q → base ≤ q := fun q hq => (own_q hown q hq).1
  refine (put_words0 (T := out ++ digL 2 (l.length : Int)) (fun w1 v1 => Ext base w v w1 v1 (out ++ digL 2 (l.length : Int))) h h0 hlow hl ok ?_ (fun w1 v1 h => ⟨h.own, h.below hq hbase, Nat.le_trans hbase h.size⟩) (by rw [List.length_append, digL_len]; omega)).mono ?_
  · exact put_num hown hbase (l.length : Int) 2 (by omega) (by omega) (by omega) (by omega) (by omega)
  · rintro e' w' ⟨w1, v1, v', h1, rfl, h2⟩
    rw [e, ← List.append_assoc]
    exact ⟨v', rfl, h1.trans h2⟩
set_option maxRecDepth 100000 in
set_option maxHeartbeats 2000000 in
theorem put_rels0 {l : List RelM} {T : Bs} (N : World → Value → Prop) (h : IsRels A w0 vl l) (h0 : w0.heap.size ≤ base) (hlow : Below base w0 w) (hl : l.length ≤ 65535) (ok : ∀ r ∈ l, relOk r)
    (NM : Calls Tryd.prog 51 #[v, .int .i64 l.length, .int .i64 2] w fun e w1 => ∃ v1, e = .returned v1 ∧ N w1 v1) (hN : ∀ w1 v1, N w1 v1 → OwnB base w1 v1 T ∧ Below base w w1 ∧ base ≤ w1.heap.size) (hsz : T.length + (flatW relW l).length ≤ 3000000) :
    Calls Tryd.prog 55 #[v, vl, .func (.func 56) #[] #[]] w fun e w' => ∃ w1 v1 v', N w1 v1 ∧ e = .returned v' ∧ Ext base w1 v1 w' v' (T ++ flatW relW l) := by
  obtain ⟨a, c, rfl, lm, -, lx⟩ := LstA.open h
  obtain ⟨n, en⟩ : ∃ n, l.length = n := ⟨_, rfl⟩
  rw [en] at lm lx hl NM ⊢
  have LX : Hid (∀ k, k < n → ∃ b off x, a = some ⟨b, off, none⟩ ∧ A b ∧ l[k]? = some x ∧ RelAt w0 b (off + k * 4) x) := lx
  have EN : Hid (l.length = n) := en
  have HLOW : Hid (w0.heap.size ≤ base ∧ Below base w0 w) := ⟨h0, hlow⟩
  have HNM : Hid (Calls Tryd.prog 51 #[v, .int .i64 n, .int .i64 2] w fun e w1 => ∃ v1, e = .returned v1 ∧ N w1 v1) := NM
  have HN : Hid (∀ w1 v1, N w1 v1 → OwnB base w1 v1 T ∧ Below base w w1 ∧ base ≤ w1.heap.size) := hN
  have HZ : Hid (T.length + (flatW relW l).length ≤ 3000000) := hsz
  have HOK := Hid.mk0 ok
  have hn : (n : Int) ≤ 65535 := by omega
  clear h lx en lm h0 hlow NM hN hsz ok
  go_enter Tryd.func55, Tryd.ntmps55
  go_wp2_with (go_at_call 51; refine HNM.out.mono ?_; rintro e w1 ⟨v1, rfl, hN1⟩)
  have N1 := Hid.mk0 hN1
  obtain ⟨o1, b1, s1⟩ := HN.out w1 v1 hN1
  have Z1 : Hid (Ext base w1 v1 w1 v1 T) := Ext.refl o1
  have LB : Hid (Below base w0 w1 ∧ base ≤ w1.heap.size ∧ ∀ q, v1.ownBlock = some q → base ≤ q) := ⟨HLOW.out.2.trans b1, s1, fun q hq => (own_q o1 q hq).1⟩
  clear hN1 o1 b1 s1
  go_loopw [0, 15] (fun ov iv wr => ∃ k : Nat, k ≤ n ∧ iv = .int .i64 k ∧ Ext base w1 v1 wr ov (T ++ flatW relW (l.take k))) (fun _ iv _ => n - (intOf iv).toNat)
  case atStart => exact ⟨0, Nat.zero_le _, rfl, by rw [List.take_zero]; show Ext base w1 v1 w1 v1 (T ++ []); rw [List.append_nil]; exact Z1.out⟩
  case round =>
    obtain ⟨k, hk, rfl, he⟩ := hrel
    have HE := Hid.mk0 he
    clear he Z1
    by_cases hlt : k < n
    · have hlt' : (k : Int) < n := by omega
      obtain ⟨q, off, ⟨xa, xk, xn, xd⟩, rfl, -, hx, x0, x1, x2, x3, hs⟩ := LX.out k hlt
      dsimp only at x0 x1 x2 x3 hs
      have HS := Hid.mk0 hs
      clear hs
      have HX : Hid (l[k]? = some ⟨xa, xk, xn, xd⟩) := hx
      have SZ2 : Hid ((T ++ flatW relW (l.take k)).length + (relW ⟨xa, xk, xn, xd⟩).length ≤ 3000000) := by
        have h1 := flat_le2 (wr := relW) hx
        have := HZ.out
        unfold Hid
        rw [List.length_append]
        omega
      have BW : Hid (Below base w0 wr) := LB.out.1.trans (HE.out.below LB.out.2.2 LB.out.2.1)
      replace x0 := cell_base x0 BW.out (Nat.lt_of_lt_of_le (World.block_lt_of_cell? w0 _ x0) HLOW.out.1)
      replace x1 := cell_base x1 BW.out (Nat.lt_of_lt_of_le (World.block_lt_of_cell? w0 _ x1) HLOW.out.1)
      replace x2 := cell_base x2 BW.out (Nat.lt_of_lt_of_le (World.block_lt_of_cell? w0 _ x2) HLOW.out.1)
      replace x3 := cell_base x3 BW.out (Nat.lt_of_lt_of_le (World.block_lt_of_cell? w0 _ x3) HLOW.out.1)
      clear hx
      go_upto_region 5 with fail
      have UP := keep_alloc8 (Below.refl _ wr) (.cells #[.int .i64 xa, .int .i64 xk, .string xn, .int .i64 xd] 36)
      have HE2 : Hid (Ext base w1 v1 (wr.alloc (.cells #[.int .i64 xa, .int .i64 xk, .string xn, .int .i64 xd] 36)) _ (T ++ flatW relW (l.take k))) := HE.out.later UP
      have X3 : Hid (XAt (wr.alloc (.cells #[.int .i64 xa, .int .i64 xk, .string xn, .int .i64 xd] 36)) wr.heap.size [.int .i64 xa, .int .i64 xk, .string xn, .int .i64 xd]) := XAt.new _ _ _
      generalize wr.alloc (.cells #[.int .i64 xa, .int .i64 xk, .string xn, .int .i64 xd] 36) = w2 at HE2 X3 UP ⊢
      have BW2 : Hid (Below base w0 w2 ∧ base ≤ w2.heap.size) := ⟨LB.out.1.trans (HE2.out.below LB.out.2.2 LB.out.2.1), Nat.le_trans LB.out.2.1 HE2.out.size⟩
      clear UP x0 x1 x2 x3
      have x0 := X3.out.1 0 _ rfl
      have x1 := X3.out.1 1 _ rfl
      have x2 := X3.out.1 2 _ rfl
      have x3 := X3.out.1 3 _ rfl
      go_wp2_with (go_at_call 56; refine (put_rel (r := ⟨xa, xk, xn, xd⟩) ⟨rfl, HS.out⟩ (HOK.out _ (List.mem_of_getElem? HX.out)) HE2.out.own BW2.out.2 SZ2.out).mono ?_; rintro e w3 ⟨v3, rfl, Z⟩)
      go_roundw
      case rel => exact ⟨k + 1, by omega, by go_num, by rw [flat_next HX.out, ← List.append_assoc]; exact HE2.out.trans Z⟩
      case measure => simp [intOf]; omega
    · obtain rfl : k = n := by omega
      go_wp2
      go_ret
      have h := HE.out
      rw [← EN.out, List.take_length] at h
      exact ⟨w1, v1, _, N1.out, rfl, h⟩
theorem put_rels {l : List RelM} (h : IsRels A w0 vl l) (h0 : w0.heap.size ≤ base) (hlow : Below base w0 w) (hown : OwnB base w v out) (hbase : base ≤ w.heap.size) (hl : l.length ≤ 65535) (ok : ∀ r ∈ l, relOk r) (hsz : out.length + (listW relW l).length ≤ 3000000) :
    Calls Tryd.prog 55 #[v, vl, .func (.func 56) #[] #[]] w (Puts base w v (out ++ listW relW l)) := by
  have e : listW relW l = digL 2 (l.length : Int) ++ flatW relW l := rfl
  have hz : out.length + 2 + (flatW relW l).length ≤ 3000000 := by rw [e, List.length_append, digL_len] at hsz; omega
  have hq : ∀ q, v.ownBlock = some q → base ≤ q := fun q hq => (own_q hown q hq).1
  refine (put_rels0 (T := out ++ digL 2 (l.length : Int)) (fun w1 v1 => Ext base w v w1 v1 (out ++ digL 2 (l.length : Int))) h h0 hlow hl ok ?_ (fun w1 v1 h => ⟨h.own, h.below hq hbase, Nat.le_trans hbase h.size⟩) (by rw [List.length_append, digL_len]; omega)).mono ?_
  · exact put_num hown hbase (l.length : Int) 2 (by omega) (by omega) (by omega) (by omega) (by omega)
  · rintro e' w' ⟨w1, v1, v', h1, rfl, h2⟩
    rw [e, ← List.append_assoc]
    exact ⟨v', rfl, h1.trans h2⟩
set_option maxRecDepth 100000 in
set_option maxHeartbeats 2000000 in
theorem put_notes0 {l : List NoteM} {T : Bs} (N : World → Value → Prop) (h : IsNotes A w0 vl l) (h0 : w0.heap.size ≤ base) (hlow : Below base w0 w) (hl : l.length ≤ 65535) (ok : ∀ x ∈ l, noteOk x)
    (NM : Calls Tryd.prog 51 #[v, .int .i64 l.length, .int .i64 2] w fun e w1 => ∃ v1, e = .returned v1 ∧ N w1 v1) (hN : ∀ w1 v1, N w1 v1 → OwnB base w1 v1 T ∧ Below base w w1 ∧ base ≤ w1.heap.size) (hsz : T.length + (flatW noteW l).length ≤ 3000000) :
    Calls Tryd.prog 37 #[v, vl, .func (.func 38) #[] #[]] w fun e w' => ∃ w1 v1 v', N w1 v1 ∧ e = .returned v' ∧ Ext base w1 v1 w' v' (T ++ flatW noteW l) := by
  obtain ⟨a, c, rfl, lm, -, lx⟩ := LstA.open h
  obtain ⟨n, en⟩ : ∃ n, l.length = n := ⟨_, rfl⟩
  rw [en] at lm lx hl NM ⊢
  have LX : Hid (∀ k, k < n → ∃ b off x, a = some ⟨b, off, none⟩ ∧ A b ∧ l[k]? = some x ∧ NoteAt w0 b (off + k * 2) x) := lx
  have EN : Hid (l.length = n) := en
  have HLOW : Hid (w0.heap.size ≤ base ∧ Below base w0 w) := ⟨h0, hlow⟩
  have HNM : Hid (Calls Tryd.prog 51 #[v, .int .i64 n, .int .i64 2] w fun e w1 => ∃ v1, e = .returned v1 ∧ N w1 v1) := NM
  have HN : Hid (∀ w1 v1, N w1 v1 → OwnB base w1 v1 T ∧ Below base w w1 ∧ base ≤ w1.heap.size) := hN
  have HZ : Hid (T.length + (flatW noteW l).length ≤ 3000000) := hsz
  have HOK := Hid.mk0 ok
  have hn : (n : Int) ≤ 65535 := by omega
  clear h lx en lm h0 hlow NM hN hsz ok
  go_enter Tryd.func37, Tryd.ntmps37
  go_wp2_with (go_at_call 51; refine HNM.out.mono ?_; rintro e w1 ⟨v1, rfl, hN1⟩)
  have N1 := Hid.mk0 hN1
  obtain ⟨o1, b1, s1⟩ := HN.out w1 v1 hN1
  have Z1 : Hid (Ext base w1 v1 w1 v1 T) := Ext.refl o1
  have LB : Hid (Below base w0 w1 ∧ base ≤ w1.heap.size ∧ ∀ q, v1.ownBlock = some q → base ≤ q) := ⟨HLOW.out.2.trans b1, s1, fun q hq => (own_q o1 q hq).1⟩
  clear hN1 o1 b1 s1
  go_loopw [0, 15] (fun ov iv wr => ∃ k : Nat, k ≤ n ∧ iv = .int .i64 k ∧ Ext base w1 v1 wr ov (T ++ flatW noteW (l.take k))) (fun _ iv _ => n - (intOf iv).toNat)
  case atStart => exact ⟨0, Nat.zero_le _, rfl, by rw [List.take_zero]; show Ext base w1 v1 w1 v1 (T ++ []); rw [List.append_nil]; exact Z1.out⟩
  case round =>
    obtain ⟨k, hk, rfl, he⟩ := hrel
    have HE := Hid.mk0 he
    clear he Z1
    by_cases hlt : k < n
    · have hlt' : (k : Int) < n := by omega
      obtain ⟨q, off, ⟨xn, xk⟩, rfl, -, hx, x0, x1, hs⟩ := LX.out k hlt
      dsimp only at x0 x1 hs
      have HS := Hid.mk0 hs
      clear hs
      have HX : Hid (l[k]? = some ⟨xn, xk⟩) := hx
      have SZ2 : Hid ((T ++ flatW noteW (l.take k)).length + (noteW ⟨xn, xk⟩).length ≤ 3000000) := by
        have h1 := flat_le2 (wr := noteW) hx
        have := HZ.out
        unfold Hid
        rw [List.length_append]
        omega
      have BW : Hid (Below base w0 wr) := LB.out.1.trans (HE.out.below LB.out.2.2 LB.out.2.1)
      replace x0 := cell_base x0 BW.out (Nat.lt_of_lt_of_le (World.block_lt_of_cell? w0 _ x0) HLOW.out.1)
      replace x1 := cell_base x1 BW.out (Nat.lt_of_lt_of_le (World.block_lt_of_cell? w0 _ x1) HLOW.out.1)
      clear hx
      go_upto_region 5 with fail
      have UP := keep_alloc8 (Below.refl _ wr) (.cells #[.string xn, .int .i64 xk] 75)
      have HE2 : Hid (Ext base w1 v1 (wr.alloc (.cells #[.string xn, .int .i64 xk] 75)) _ (T ++ flatW noteW (l.take k))) := HE.out.later UP
      have X3 : Hid (XAt (wr.alloc (.cells #[.string xn, .int .i64 xk] 75)) wr.heap.size [.string xn, .int .i64 xk]) := XAt.new _ _ _
      generalize wr.alloc (.cells #[.string xn, .int .i64 xk] 75) = w2 at HE2 X3 UP ⊢
      have BW2 : Hid (Below base w0 w2 ∧ base ≤ w2.heap.size) := ⟨LB.out.1.trans (HE2.out.below LB.out.2.2 LB.out.2.1), Nat.le_trans LB.out.2.1 HE2.out.size⟩
      clear UP x0 x1
      have x0 := X3.out.1 0 _ rfl
      have x1 := X3.out.1 1 _ rfl
      go_wp2_with (go_at_call 38; refine (put_note (x := ⟨xn, xk⟩) ⟨rfl, HS.out⟩ (HOK.out _ (List.mem_of_getElem? HX.out)) HE2.out.own BW2.out.2 SZ2.out).mono ?_; rintro e w3 ⟨v3, rfl, Z⟩)
      go_roundw
      case rel => exact ⟨k + 1, by omega, by go_num, by rw [flat_next HX.out, ← List.append_assoc]; exact HE2.out.trans Z⟩
      case measure => simp [intOf]; omega
    · obtain rfl : k = n := by omega
      go_wp2
      go_ret
      have h := HE.out
      rw [← EN.out, List.take_length] at h
      exact ⟨w1, v1, _, N1.out, rfl, h⟩
theorem put_notes {l : List NoteM} (h : IsNotes A w0 vl l) (h0 : w0.heap.size ≤ base) (hlow : Below base w0 w) (hown : OwnB base w v out) (hbase : base ≤ w.heap.size) (hl : l.length ≤ 65535) (ok : ∀ x ∈ l, noteOk x) (hsz : out.length + (listW noteW l).length ≤ 3000000) :
    Calls Tryd.prog 37 #[v, vl, .func (.func 38) #[] #[]] w (Puts base w v (out ++ listW noteW l)) := by
  have e : listW noteW l = digL 2 (l.length : Int) ++ flatW noteW l := rfl
  have hz : out.length + 2 + (flatW noteW l).length ≤ 3000000 := by rw [e, List.length_append, digL_len] at hsz; omega
  have hq : ∀ q, v.ownBlock = some q → base ≤ q := fun q hq => (own_q hown q hq).1
  refine (put_notes0 (T := out ++ digL 2 (l.length : Int)) (fun w1 v1 => Ext base w v w1 v1 (out ++ digL 2 (l.length : Int))) h h0 hlow hl ok ?_ (fun w1 v1 h => ⟨h.own, h.below hq hbase, Nat.le_trans hbase h.size⟩) (by rw [List.length_append, digL_len]; omega)).mono ?_
  · exact put_num hown hbase (l.length : Int) 2 (by omega) (by omega) (by omega) (by omega) (by omega)
  · rintro e' w' ⟨w1, v1, v', h1, rfl, h2⟩
    rw [e, ← List.append_assoc]
    exact ⟨v', rfl, h1.trans h2⟩
set_option maxRecDepth 100000 in
set_option maxHeartbeats 2000000 in
theorem put_func {f : FuncM} (h : FuncV A w0 u f) (ok : funcOk f) (h0 : w0.heap.size ≤ base) (hlow : Below base w0 w) (hown : OwnB base w v out) (hbase : base ≤ w.heap.size) (hsz : out.length + (funcW f).length ≤ 3000000) :
    Calls Tryd.prog 34 #[v, u] w (Puts base w v (out ++ funcW f)) := by
  obtain ⟨vc, vr, rfl, hc, hr, hs⟩ := h
  obtain ⟨xn, xb, xc, xr⟩ := f
  obtain ⟨kn, ⟨kb0, kb1⟩, ⟨kc0, kc1⟩, kr⟩ := ok
  dsimp only at *
  have HC := Hid.mk0 hc
  have HR := Hid.mk0 hr
  obtain ⟨ca, cc, rfl, -, -, -⟩ := LstA.open (id hc.1)
  obtain ⟨ra, rc, rfl, -, -, -⟩ := LstA.open (id hr)
  have OK : Hid (namedB xn = true ∧ (1 ≤ xb ∧ xb ≤ 255) ∧ (xc.length ≤ 2000 ∧ xr.length ≤ 64) ∧ ∀ r ∈ xr, relOk r) := ⟨kn, ⟨kb0, kb1⟩, ⟨kc0, kr.1⟩, kr.2⟩
  have SZ : Hid (out.length + (1 + xn.size + 1 + (2 + 4 * xc.length) + (listW relW xr).length) ≤ 3000000) := by rw [funcW_len] at hsz; exact hsz
  clear hsz hc hr kn kb0 kb1 kc0 kc1 kr hs
  have UP : Hid (Below w.heap.size w (w.alloc (.cells #[.string xn, .int .i64 xb, .slice ca xc.length cc, .slice ra xr.length rc] 32))) := keep_alloc8 (Below.refl _ _) _
  have X1 : Hid (XAt (w.alloc (.cells #[.string xn, .int .i64 xb, .slice ca xc.length cc, .slice ra xr.length rc] 32)) w.heap.size [.string xn, .int .i64 xb, .slice ca xc.length cc, .slice ra xr.length rc]) := XAt.new _ _ _
  have hX : Hid (w.heap.size < (w.alloc (.cells #[.string xn, .int .i64 xb, .slice ca xc.length cc, .slice ra xr.length rc] 32)).heap.size) := by unfold Hid; simp
  have HNO : Hid (v.ownBlock ≠ some w.heap.size ∧ ∀ q, v.ownBlock = some q → base ≤ q) := ⟨fun e => by have := (own_q hown _ e).2; omega, fun q hq => (own_q hown q hq).1⟩
  have E0 : Hid (Ext base (w.alloc (.cells #[.string xn, .int .i64 xb, .slice ca xc.length cc, .slice ra xr.length rc] 32)) v (w.alloc (.cells #[.string xn, .int .i64 xb, .slice ca xc.length cc, .slice ra xr.length rc] 32)) v out) := Ext.refl (hown.later UP.out)
  have HB : Hid (base ≤ (w.alloc (.cells #[.string xn, .int .i64 xb, .slice ca xc.length cc, .slice ra xr.length rc] 32)).heap.size) := Nat.le_trans hbase UP.out.size
  have LOW : Hid (w0.heap.size ≤ base ∧ Below base w0 (w.alloc (.cells #[.string xn, .int .i64 xb, .slice ca xc.length cc, .slice ra xr.length rc] 32))) := ⟨h0, hlow.trans (UP.out.mono hbase)⟩
  clear h0 hlow
  clear hown hbase
  go_enter Tryd.func34, Tryd.ntmps34
  go_upto_region 1 with fail
  generalize w.alloc (.cells #[.string xn, .int .i64 xb, .slice ca xc.length cc, .slice ra xr.length rc] 32) = w00 at UP X1 hX E0 HB LOW ⊢
  have y0 := X1.out.1 0 _ rfl
  have y1 := X1.out.1 1 _ rfl
  have y2 := X1.out.1 2 _ rfl
  have y3 := X1.out.1 3 _ rfl
  go_wp2_with (first
    | (have q := E3; go_at_call 55; refine (put_rels HR.out LOW.out.1 (LOW.out.2.trans (E3.out.below HNO.out.2 HB.out)) E3.out.own (Nat.le_trans HB.out E3.out.size) (by have := OK.out; omega) (OK.out.2.2.2) (by have e9 := words_len xc; (try simp only [List.length_append, digL_len, nameW_len]); have := SZ.out; omega)).mono ?_; rintro e w4 ⟨v4, rfl, Z⟩; have E4 : Hid (Ext base w00 v w4 v4 (out ++ nameW xn ++ digL 1 xb ++ listW (digL 4) xc ++ listW relW xr)) := E3.out.trans Z; clear Z; have y0 := (E4.out.xat X1.out hX.out HNO.out.1).1 0 _ rfl; have y1 := (E4.out.xat X1.out hX.out HNO.out.1).1 1 _ rfl; have y2 := (E4.out.xat X1.out hX.out HNO.out.1).1 2 _ rfl; have y3 := (E4.out.xat X1.out hX.out HNO.out.1).1 3 _ rfl)
    | (have q := E2; go_at_call 53; refine (put_words HC.out LOW.out.1 (LOW.out.2.trans (E2.out.below HNO.out.2 HB.out)) E2.out.own (Nat.le_trans HB.out E2.out.size) (by have := OK.out; omega) trivial (by have e9 := words_len xc; simp only [List.length_append, digL_len, nameW_len]; have := SZ.out; omega)).mono ?_; rintro e w3 ⟨v3, rfl, Z⟩; have E3 : Hid (Ext base w00 v w3 v3 (out ++ nameW xn ++ digL 1 xb ++ listW (digL 4) xc)) := E2.out.trans Z; clear Z; have y0 := (E3.out.xat X1.out hX.out HNO.out.1).1 0 _ rfl; have y1 := (E3.out.xat X1.out hX.out HNO.out.1).1 1 _ rfl; have y2 := (E3.out.xat X1.out hX.out HNO.out.1).1 2 _ rfl; have y3 := (E3.out.xat X1.out hX.out HNO.out.1).1 3 _ rfl)
    | (have q := E1; go_at_call 51; refine (put_num E1.out.own (Nat.le_trans HB.out E1.out.size) (xb) 1 (by have := OK.out; omega) (by have := OK.out; omega) (by omega) (by omega) (by (try simp only [List.length_append, digL_len, nameW_len]); have := SZ.out; omega)).mono ?_; rintro e w2 ⟨v2, rfl, Z⟩; have E2 : Hid (Ext base w00 v w2 v2 (out ++ nameW xn ++ digL 1 xb)) := E1.out.trans Z; clear Z; have y0 := (E2.out.xat X1.out hX.out HNO.out.1).1 0 _ rfl; have y1 := (E2.out.xat X1.out hX.out HNO.out.1).1 1 _ rfl; have y2 := (E2.out.xat X1.out hX.out HNO.out.1).1 2 _ rfl; have y3 := (E2.out.xat X1.out hX.out HNO.out.1).1 3 _ rfl)
    | (have q := E0; go_at_call 52; refine (put_name E0.out.own (Nat.le_trans HB.out E0.out.size) xn OK.out.1 (by (try simp only [List.length_append, digL_len, nameW_len]); have := SZ.out; omega)).mono ?_; rintro e w1 ⟨v1, rfl, Z⟩; have E1 : Hid (Ext base w00 v w1 v1 (out ++ nameW xn)) := E0.out.trans Z; clear Z; have y0 := (E1.out.xat X1.out hX.out HNO.out.1).1 0 _ rfl; have y1 := (E1.out.xat X1.out hX.out HNO.out.1).1 1 _ rfl; have y2 := (E1.out.xat X1.out hX.out HNO.out.1).1 2 _ rfl; have y3 := (E1.out.xat X1.out hX.out HNO.out.1).1 3 _ rfl))
  go_ret
  have e : out ++ funcW ⟨xn, xb, xc, xr⟩ = out ++ nameW xn ++ digL 1 xb ++ listW (digL 4) xc ++ listW relW xr := by unfold funcW; simp only [List.append_assoc]
  rw [e]
  exact ⟨v4, rfl, Ext.after UP.out E4.out⟩
set_option maxRecDepth 100000 in
set_option maxHeartbeats 2000000 in
theorem put_data {d : DataM} (h : DataV A w0 u d) (ok : dataOk d) (h0 : w0.heap.size ≤ base) (hlow : Below base w0 w) (hown : OwnB base w v out) (hbase : base ≤ w.heap.size) (hsz : out.length + (dataW d).length ≤ 3000000) :
    Calls Tryd.prog 36 #[v, u] w (Puts base w v (out ++ dataW d)) := by
  obtain ⟨vc, vr, rfl, hc, hr, hs⟩ := h
  obtain ⟨xn, xb, xa, xf, xz, xc, xr⟩ := d
  obtain ⟨kn, ⟨kb0, kb1⟩, ⟨ka0, ka1⟩, ⟨kz0, kz1⟩, ⟨kc0, kc1⟩, kr⟩ := ok
  dsimp only at *
  have HC := Hid.mk0 hc
  have HR := Hid.mk0 hr
  obtain ⟨ca, cc, rfl, -, -, -⟩ := LstA.open (id hc.1)
  obtain ⟨ra, rc, rfl, -, -, -⟩ := LstA.open (id hr)
  have OK : Hid (namedB xn = true ∧ ((1 ≤ xb ∧ xb ≤ 255) ∧ (0 ≤ xa ∧ xa ≤ 255) ∧ (0 ≤ xz ∧ xz ≤ 65535)) ∧ (xc.length ≤ 4096 ∧ xr.length ≤ 64) ∧ ∀ r ∈ xr, relOk r) := ⟨kn, ⟨⟨kb0, kb1⟩, ⟨ka0, ka1⟩, kz0, kz1⟩, ⟨kc0, kr.1⟩, kr.2⟩
  have SZ : Hid (out.length + (1 + xn.size + 3 + 2 + (2 + xc.length) + (listW relW xr).length) ≤ 3000000) := by rw [dataW_len] at hsz; exact hsz
  clear hsz hc hr kn kb0 kb1 ka0 ka1 kz0 kz1 kc0 kc1 kr hs
  have UP : Hid (Below w.heap.size w (w.alloc (.cells #[.string xn, .int .i64 xb, .int .i64 xa, .bool xf, .int .i64 xz, .slice ca xc.length cc, .slice ra xr.length rc] 25))) := keep_alloc8 (Below.refl _ _) _
  have X1 : Hid (XAt (w.alloc (.cells #[.string xn, .int .i64 xb, .int .i64 xa, .bool xf, .int .i64 xz, .slice ca xc.length cc, .slice ra xr.length rc] 25)) w.heap.size [.string xn, .int .i64 xb, .int .i64 xa, .bool xf, .int .i64 xz, .slice ca xc.length cc, .slice ra xr.length rc]) := XAt.new _ _ _
  have hX : Hid (w.heap.size < (w.alloc (.cells #[.string xn, .int .i64 xb, .int .i64 xa, .bool xf, .int .i64 xz, .slice ca xc.length cc, .slice ra xr.length rc] 25)).heap.size) := by unfold Hid; simp
  have HNO : Hid (v.ownBlock ≠ some w.heap.size ∧ ∀ q, v.ownBlock = some q → base ≤ q) := ⟨fun e => by have := (own_q hown _ e).2; omega, fun q hq => (own_q hown q hq).1⟩
  have E0 : Hid (Ext base (w.alloc (.cells #[.string xn, .int .i64 xb, .int .i64 xa, .bool xf, .int .i64 xz, .slice ca xc.length cc, .slice ra xr.length rc] 25)) v (w.alloc (.cells #[.string xn, .int .i64 xb, .int .i64 xa, .bool xf, .int .i64 xz, .slice ca xc.length cc, .slice ra xr.length rc] 25)) v out) := Ext.refl (hown.later UP.out)
  have HB : Hid (base ≤ (w.alloc (.cells #[.string xn, .int .i64 xb, .int .i64 xa, .bool xf, .int .i64 xz, .slice ca xc.length cc, .slice ra xr.length rc] 25)).heap.size) := Nat.le_trans hbase UP.out.size
  have LOW : Hid (w0.heap.size ≤ base ∧ Below base w0 (w.alloc (.cells #[.string xn, .int .i64 xb, .int .i64 xa, .bool xf, .int .i64 xz, .slice ca xc.length cc, .slice ra xr.length rc] 25))) := ⟨h0, hlow.trans (UP.out.mono hbase)⟩
  clear h0 hlow
  clear hown hbase
  have CSR : Hid (∀ W, Below base w0 W → Src W ca cc xc) := fun W hW => by
    have h := (HC.out.keep (w' := W) fun k _ hk => hW.block k (Nat.lt_of_lt_of_le hk LOW.out.1)).row
    obtain ⟨a', c', e', hh', hb', -⟩ := h
    simp only [Value.slice.injEq] at e'
    obtain ⟨rfl, -, rfl⟩ := e'
    exact src_bytes rfl hh'.1 hb'
  go_enter Tryd.func36, Tryd.ntmps36
  go_upto_region 1 with fail
  generalize w.alloc (.cells #[.string xn, .int .i64 xb, .int .i64 xa, .bool xf, .int .i64 xz, .slice ca xc.length cc, .slice ra xr.length rc] 25) = w00 at UP X1 hX E0 HB LOW ⊢
  have y0 := X1.out.1 0 _ rfl
  have y1 := X1.out.1 1 _ rfl
  have y2 := X1.out.1 2 _ rfl
  have y3 := X1.out.1 3 _ rfl
  have y4 := X1.out.1 4 _ rfl
  have y5 := X1.out.1 5 _ rfl
  have y6 := X1.out.1 6 _ rfl
  go_wp2_with (first
    | (have q := E7; go_at_call 55; refine (put_rels HR.out LOW.out.1 (LOW.out.2.trans (E7.out.below HNO.out.2 HB.out)) E7.out.own (Nat.le_trans HB.out E7.out.size) (by have := OK.out; omega) (OK.out.2.2.2) (by (try simp only [List.length_append, digL_len, nameW_len]); have := SZ.out; omega)).mono ?_; rintro e w8 ⟨v8, rfl, Z⟩; have E8 : Hid (Ext base w00 v w8 v8 (out ++ nameW xn ++ digL 1 xb ++ digL 1 xa ++ digL 1 (fixW xf) ++ digL 2 xz ++ digL 2 (xc.length : Int) ++ xc ++ listW relW xr)) := E7.out.trans Z; clear Z; have y0 := (E8.out.xat X1.out hX.out HNO.out.1).1 0 _ rfl; have y1 := (E8.out.xat X1.out hX.out HNO.out.1).1 1 _ rfl; have y2 := (E8.out.xat X1.out hX.out HNO.out.1).1 2 _ rfl; have y3 := (E8.out.xat X1.out hX.out HNO.out.1).1 3 _ rfl; have y4 := (E8.out.xat X1.out hX.out HNO.out.1).1 4 _ rfl; have y5 := (E8.out.xat X1.out hX.out HNO.out.1).1 5 _ rfl; have y6 := (E8.out.xat X1.out hX.out HNO.out.1).1 6 _ rfl)
    | (have q := E6; at_builtin; refine wpList_ext rfl (.tmp 31) (.tmp 33) rfl base _ _ rfl E6.out.own ca xc.length cc xc rfl rfl (CSR.out _ (LOW.out.2.trans (E6.out.below HNO.out.2 HB.out))) (by (try simp only [List.length_append, digL_len, nameW_len]); have := SZ.out; omega) (Nat.le_trans HB.out E6.out.size) ?_; intro v7 w7 Z; have E7 : Hid (Ext base w00 v w7 v7 (out ++ nameW xn ++ digL 1 xb ++ digL 1 xa ++ digL 1 (fixW xf) ++ digL 2 xz ++ digL 2 (xc.length : Int) ++ xc)) := E6.out.trans Z; clear Z; have y0 := (E7.out.xat X1.out hX.out HNO.out.1).1 0 _ rfl; have y1 := (E7.out.xat X1.out hX.out HNO.out.1).1 1 _ rfl; have y2 := (E7.out.xat X1.out hX.out HNO.out.1).1 2 _ rfl; have y3 := (E7.out.xat X1.out hX.out HNO.out.1).1 3 _ rfl; have y4 := (E7.out.xat X1.out hX.out HNO.out.1).1 4 _ rfl; have y5 := (E7.out.xat X1.out hX.out HNO.out.1).1 5 _ rfl; have y6 := (E7.out.xat X1.out hX.out HNO.out.1).1 6 _ rfl)
    | (have q := E5; go_at_call 51; refine (put_num E5.out.own (Nat.le_trans HB.out E5.out.size) (xc.length) 2 (by have := OK.out; omega) (by have := OK.out; omega) (by omega) (by omega) (by (try simp only [List.length_append, digL_len, nameW_len]); have := SZ.out; omega)).mono ?_; rintro e w6 ⟨v6, rfl, Z⟩; have E6 : Hid (Ext base w00 v w6 v6 (out ++ nameW xn ++ digL 1 xb ++ digL 1 xa ++ digL 1 (fixW xf) ++ digL 2 xz ++ digL 2 (xc.length : Int))) := E5.out.trans Z; clear Z; have y0 := (E6.out.xat X1.out hX.out HNO.out.1).1 0 _ rfl; have y1 := (E6.out.xat X1.out hX.out HNO.out.1).1 1 _ rfl; have y2 := (E6.out.xat X1.out hX.out HNO.out.1).1 2 _ rfl; have y3 := (E6.out.xat X1.out hX.out HNO.out.1).1 3 _ rfl; have y4 := (E6.out.xat X1.out hX.out HNO.out.1).1 4 _ rfl; have y5 := (E6.out.xat X1.out hX.out HNO.out.1).1 5 _ rfl; have y6 := (E6.out.xat X1.out hX.out HNO.out.1).1 6 _ rfl)
    | (have q := E4; go_at_call 51; refine (put_num E4.out.own (Nat.le_trans HB.out E4.out.size) (xz) 2 (by have := OK.out; omega) (by have := OK.out; omega) (by omega) (by omega) (by (try simp only [List.length_append, digL_len, nameW_len]); have := SZ.out; omega)).mono ?_; rintro e w5 ⟨v5, rfl, Z⟩; have E5 : Hid (Ext base w00 v w5 v5 (out ++ nameW xn ++ digL 1 xb ++ digL 1 xa ++ digL 1 (fixW xf) ++ digL 2 xz)) := E4.out.trans Z; clear Z; have y0 := (E5.out.xat X1.out hX.out HNO.out.1).1 0 _ rfl; have y1 := (E5.out.xat X1.out hX.out HNO.out.1).1 1 _ rfl; have y2 := (E5.out.xat X1.out hX.out HNO.out.1).1 2 _ rfl; have y3 := (E5.out.xat X1.out hX.out HNO.out.1).1 3 _ rfl; have y4 := (E5.out.xat X1.out hX.out HNO.out.1).1 4 _ rfl; have y5 := (E5.out.xat X1.out hX.out HNO.out.1).1 5 _ rfl; have y6 := (E5.out.xat X1.out hX.out HNO.out.1).1 6 _ rfl)
    | (have q := E3; go_at_call 51; refine (put_num E3.out.own (Nat.le_trans HB.out E3.out.size) (fixW xf) 1 (by cases xf <;> decide) (by cases xf <;> decide) (by omega) (by omega) (by (try simp only [List.length_append, digL_len, nameW_len]); have := SZ.out; omega)).mono ?_; rintro e w4 ⟨v4, rfl, Z⟩; have E4 : Hid (Ext base w00 v w4 v4 (out ++ nameW xn ++ digL 1 xb ++ digL 1 xa ++ digL 1 (fixW xf))) := E3.out.trans Z; clear Z; have y0 := (E4.out.xat X1.out hX.out HNO.out.1).1 0 _ rfl; have y1 := (E4.out.xat X1.out hX.out HNO.out.1).1 1 _ rfl; have y2 := (E4.out.xat X1.out hX.out HNO.out.1).1 2 _ rfl; have y3 := (E4.out.xat X1.out hX.out HNO.out.1).1 3 _ rfl; have y4 := (E4.out.xat X1.out hX.out HNO.out.1).1 4 _ rfl; have y5 := (E4.out.xat X1.out hX.out HNO.out.1).1 5 _ rfl; have y6 := (E4.out.xat X1.out hX.out HNO.out.1).1 6 _ rfl)
    | (go_at_call 57; refine (flag_any _ _).mono ?_; rintro e wf ⟨rfl, rfl⟩)
    | (have q := E2; go_at_call 51; refine (put_num E2.out.own (Nat.le_trans HB.out E2.out.size) (xa) 1 (by have := OK.out; omega) (by have := OK.out; omega) (by omega) (by omega) (by (try simp only [List.length_append, digL_len, nameW_len]); have := SZ.out; omega)).mono ?_; rintro e w3 ⟨v3, rfl, Z⟩; have E3 : Hid (Ext base w00 v w3 v3 (out ++ nameW xn ++ digL 1 xb ++ digL 1 xa)) := E2.out.trans Z; clear Z; have y0 := (E3.out.xat X1.out hX.out HNO.out.1).1 0 _ rfl; have y1 := (E3.out.xat X1.out hX.out HNO.out.1).1 1 _ rfl; have y2 := (E3.out.xat X1.out hX.out HNO.out.1).1 2 _ rfl; have y3 := (E3.out.xat X1.out hX.out HNO.out.1).1 3 _ rfl; have y4 := (E3.out.xat X1.out hX.out HNO.out.1).1 4 _ rfl; have y5 := (E3.out.xat X1.out hX.out HNO.out.1).1 5 _ rfl; have y6 := (E3.out.xat X1.out hX.out HNO.out.1).1 6 _ rfl)
    | (have q := E1; go_at_call 51; refine (put_num E1.out.own (Nat.le_trans HB.out E1.out.size) (xb) 1 (by have := OK.out; omega) (by have := OK.out; omega) (by omega) (by omega) (by (try simp only [List.length_append, digL_len, nameW_len]); have := SZ.out; omega)).mono ?_; rintro e w2 ⟨v2, rfl, Z⟩; have E2 : Hid (Ext base w00 v w2 v2 (out ++ nameW xn ++ digL 1 xb)) := E1.out.trans Z; clear Z; have y0 := (E2.out.xat X1.out hX.out HNO.out.1).1 0 _ rfl; have y1 := (E2.out.xat X1.out hX.out HNO.out.1).1 1 _ rfl; have y2 := (E2.out.xat X1.out hX.out HNO.out.1).1 2 _ rfl; have y3 := (E2.out.xat X1.out hX.out HNO.out.1).1 3 _ rfl; have y4 := (E2.out.xat X1.out hX.out HNO.out.1).1 4 _ rfl; have y5 := (E2.out.xat X1.out hX.out HNO.out.1).1 5 _ rfl; have y6 := (E2.out.xat X1.out hX.out HNO.out.1).1 6 _ rfl)
    | (have q := E0; go_at_call 52; refine (put_name E0.out.own (Nat.le_trans HB.out E0.out.size) xn OK.out.1 (by (try simp only [List.length_append, digL_len, nameW_len]); have := SZ.out; omega)).mono ?_; rintro e w1 ⟨v1, rfl, Z⟩; have E1 : Hid (Ext base w00 v w1 v1 (out ++ nameW xn)) := E0.out.trans Z; clear Z; have y0 := (E1.out.xat X1.out hX.out HNO.out.1).1 0 _ rfl; have y1 := (E1.out.xat X1.out hX.out HNO.out.1).1 1 _ rfl; have y2 := (E1.out.xat X1.out hX.out HNO.out.1).1 2 _ rfl; have y3 := (E1.out.xat X1.out hX.out HNO.out.1).1 3 _ rfl; have y4 := (E1.out.xat X1.out hX.out HNO.out.1).1 4 _ rfl; have y5 := (E1.out.xat X1.out hX.out HNO.out.1).1 5 _ rfl; have y6 := (E1.out.xat X1.out hX.out HNO.out.1).1 6 _ rfl))
  go_ret
  have e : out ++ dataW ⟨xn, xb, xa, xf, xz, xc, xr⟩ = out ++ nameW xn ++ digL 1 xb ++ digL 1 xa ++ digL 1 (fixW xf) ++ digL 2 xz ++ digL 2 (xc.length : Int) ++ xc ++ listW relW xr := by unfold dataW bytesW; simp only [List.append_assoc]
  rw [e]
  exact ⟨v8, rfl, Ext.after UP.out E8.out⟩
set_option maxRecDepth 100000 in
set_option maxHeartbeats 2000000 in
theorem put_funcs0 {l : List FuncM} {T : Bs} (N : World → Value → Prop) (h : IsFuncs A w0 vl l) (h0 : w0.heap.size ≤ base) (hlow : Below base w0 w) (hl : l.length ≤ 65535) (ok : ∀ f ∈ l, funcOk f)
    (NM : Calls Tryd.prog 51 #[v, .int .i64 l.length, .int .i64 2] w fun e w1 => ∃ v1, e = .returned v1 ∧ N w1 v1) (hN : ∀ w1 v1, N w1 v1 → OwnB base w1 v1 T ∧ Below base w w1 ∧ base ≤ w1.heap.size) (hsz : T.length + (flatW funcW l).length ≤ 3000000) :
    Calls Tryd.prog 33 #[v, vl, .func (.func 34) #[] #[]] w fun e w' => ∃ w1 v1 v', N w1 v1 ∧ e = .returned v' ∧ Ext base w1 v1 w' v' (T ++ flatW funcW l) := by
  obtain ⟨a, c, rfl, lm, -, lx⟩ := LstA.open h
  obtain ⟨n, en⟩ : ∃ n, l.length = n := ⟨_, rfl⟩
  rw [en] at lm lx hl NM ⊢
  have LX : Hid (∀ k, k < n → ∃ b off x, a = some ⟨b, off, none⟩ ∧ A b ∧ l[k]? = some x ∧ FuncAt A w0 b (off + k * 4) x) := lx
  have EN : Hid (l.length = n) := en
  have HLOW : Hid (w0.heap.size ≤ base ∧ Below base w0 w) := ⟨h0, hlow⟩
  have HNM : Hid (Calls Tryd.prog 51 #[v, .int .i64 n, .int .i64 2] w fun e w1 => ∃ v1, e = .returned v1 ∧ N w1 v1) := NM
  have HN : Hid (∀ w1 v1, N w1 v1 → OwnB base w1 v1 T ∧ Below base w w1 ∧ base ≤ w1.heap.size) := hN
  have HZ : Hid (T.length + (flatW funcW l).length ≤ 3000000) := hsz
  have HOK := Hid.mk0 ok
  have hn : (n : Int) ≤ 65535 := by omega
  clear h lx en lm h0 hlow NM hN hsz ok
  go_enter Tryd.func33, Tryd.ntmps33
  go_wp2_with (go_at_call 51; refine HNM.out.mono ?_; rintro e w1 ⟨v1, rfl, hN1⟩)
  have N1 := Hid.mk0 hN1
  obtain ⟨o1, b1, s1⟩ := HN.out w1 v1 hN1
  have Z1 : Hid (Ext base w1 v1 w1 v1 T) := Ext.refl o1
  have LB : Hid (Below base w0 w1 ∧ base ≤ w1.heap.size ∧ ∀ q, v1.ownBlock = some q → base ≤ q) := ⟨HLOW.out.2.trans b1, s1, fun q hq => (own_q o1 q hq).1⟩
  clear hN1 o1 b1 s1
  go_loopw [0, 15] (fun ov iv wr => ∃ k : Nat, k ≤ n ∧ iv = .int .i64 k ∧ Ext base w1 v1 wr ov (T ++ flatW funcW (l.take k))) (fun _ iv _ => n - (intOf iv).toNat)
  case atStart => exact ⟨0, Nat.zero_le _, rfl, by rw [List.take_zero]; show Ext base w1 v1 w1 v1 (T ++ []); rw [List.append_nil]; exact Z1.out⟩
  case round =>
    obtain ⟨k, hk, rfl, he⟩ := hrel
    have HE := Hid.mk0 he
    clear he Z1
    by_cases hlt : k < n
    · have hlt' : (k : Int) < n := by omega
      obtain ⟨q, off, ⟨xn, xb, xc, xr⟩, rfl, -, hx, vc, vr, x0, x1, x2, x3, hc, hr, hs⟩ := LX.out k hlt
      dsimp only at x0 x1 x2 x3 hc hr hs
      obtain ⟨ca, cc, rfl, -, -, -⟩ := LstA.open (id hc.1)
      obtain ⟨ra, rc, rfl, -, -, -⟩ := LstA.open (id hr)
      have HC := Hid.mk0 hc
      have HR := Hid.mk0 hr
      have HS := Hid.mk0 hs
      clear hc hr hs
      have HX : Hid (l[k]? = some ⟨xn, xb, xc, xr⟩) := hx
      have SZ2 : Hid ((T ++ flatW funcW (l.take k)).length + (funcW ⟨xn, xb, xc, xr⟩).length ≤ 3000000) := by
        have h1 := flat_le2 (wr := funcW) hx
        have := HZ.out
        unfold Hid
        rw [List.length_append]
        omega
      have BW : Hid (Below base w0 wr) := LB.out.1.trans (HE.out.below LB.out.2.2 LB.out.2.1)
      replace x0 := cell_base x0 BW.out (Nat.lt_of_lt_of_le (World.block_lt_of_cell? w0 _ x0) HLOW.out.1)
      replace x1 := cell_base x1 BW.out (Nat.lt_of_lt_of_le (World.block_lt_of_cell? w0 _ x1) HLOW.out.1)
      replace x2 := cell_base x2 BW.out (Nat.lt_of_lt_of_le (World.block_lt_of_cell? w0 _ x2) HLOW.out.1)
      replace x3 := cell_base x3 BW.out (Nat.lt_of_lt_of_le (World.block_lt_of_cell? w0 _ x3) HLOW.out.1)
      clear hx
      go_upto_region 5 with fail
      have UP := keep_alloc8 (Below.refl _ wr) (.cells #[.string xn, .int .i64 xb, .slice ca xc.length cc, .slice ra xr.length rc] 32)
      have HE2 : Hid (Ext base w1 v1 (wr.alloc (.cells #[.string xn, .int .i64 xb, .slice ca xc.length cc, .slice ra xr.length rc] 32)) _ (T ++ flatW funcW (l.take k))) := HE.out.later UP
      have X3 : Hid (XAt (wr.alloc (.cells #[.string xn, .int .i64 xb, .slice ca xc.length cc, .slice ra xr.length rc] 32)) wr.heap.size [.string xn, .int .i64 xb, .slice ca xc.length cc, .slice ra xr.length rc]) := XAt.new _ _ _
      generalize wr.alloc (.cells #[.string xn, .int .i64 xb, .slice ca xc.length cc, .slice ra xr.length rc] 32) = w2 at HE2 X3 UP ⊢
      have BW2 : Hid (Below base w0 w2 ∧ base ≤ w2.heap.size) := ⟨LB.out.1.trans (HE2.out.below LB.out.2.2 LB.out.2.1), Nat.le_trans LB.out.2.1 HE2.out.size⟩
      clear UP x0 x1 x2 x3
      have x0 := X3.out.1 0 _ rfl
      have x1 := X3.out.1 1 _ rfl
      have x2 := X3.out.1 2 _ rfl
      have x3 := X3.out.1 3 _ rfl
      go_wp2_with (go_at_call 34; refine (put_func (A := A) (w0 := w0) (f := ⟨xn, xb, xc, xr⟩) ⟨_, _, rfl, HC.out, HR.out, HS.out⟩ (HOK.out _ (List.mem_of_getElem? HX.out)) HLOW.out.1 BW2.out.1 HE2.out.own BW2.out.2 SZ2.out).mono ?_; rintro e w3 ⟨v3, rfl, Z⟩)
      go_roundw
      case rel => exact ⟨k + 1, by omega, by go_num, by rw [flat_next HX.out, ← List.append_assoc]; exact HE2.out.trans Z⟩
      case measure => simp [intOf]; omega
    · obtain rfl : k = n := by omega
      go_wp2
      go_ret
      have h := HE.out
      rw [← EN.out, List.take_length] at h
      exact ⟨w1, v1, _, N1.out, rfl, h⟩
theorem put_funcs {l : List FuncM} (h : IsFuncs A w0 vl l) (h0 : w0.heap.size ≤ base) (hlow : Below base w0 w) (hown : OwnB base w v out) (hbase : base ≤ w.heap.size) (hl : l.length ≤ 65535) (ok : ∀ f ∈ l, funcOk f) (hsz : out.length + (listW funcW l).length ≤ 3000000) :
    Calls Tryd.prog 33 #[v, vl, .func (.func 34) #[] #[]] w (Puts base w v (out ++ listW funcW l)) := by
  have e : listW funcW l = digL 2 (l.length : Int) ++ flatW funcW l := rfl
  have hz : out.length + 2 + (flatW funcW l).length ≤ 3000000 := by rw [e, List.length_append, digL_len] at hsz; omega
  have hq : ∀ q, v.ownBlock = some q → base ≤ q := fun q hq => (own_q hown q hq).1
  refine (put_funcs0 (T := out ++ digL 2 (l.length : Int)) (fun w1 v1 => Ext base w v w1 v1 (out ++ digL 2 (l.length : Int))) h h0 hlow hl ok ?_ (fun w1 v1 h => ⟨h.own, h.below hq hbase, Nat.le_trans hbase h.size⟩) (by rw [List.length_append, digL_len]; omega)).mono ?_
  · exact put_num hown hbase (l.length : Int) 2 (by omega) (by omega) (by omega) (by omega) (by omega)
  · rintro e' w' ⟨w1, v1, v', h1, rfl, h2⟩
    rw [e, ← List.append_assoc]
    exact ⟨v', rfl, h1.trans h2⟩
set_option maxRecDepth 100000 in
set_option maxHeartbeats 2000000 in
theorem put_datas0 {l : List DataM} {T : Bs} (N : World → Value → Prop) (h : IsDatas A w0 vl l) (h0 : w0.heap.size ≤ base) (hlow : Below base w0 w) (hl : l.length ≤ 65535) (ok : ∀ d ∈ l, dataOk d)
    (NM : Calls Tryd.prog 51 #[v, .int .i64 l.length, .int .i64 2] w fun e w1 => ∃ v1, e = .returned v1 ∧ N w1 v1) (hN : ∀ w1 v1, N w1 v1 → OwnB base w1 v1 T ∧ Below base w w1 ∧ base ≤ w1.heap.size) (hsz : T.length + (flatW dataW l).length ≤ 3000000) :
    Calls Tryd.prog 35 #[v, vl, .func (.func 36) #[] #[]] w fun e w' => ∃ w1 v1 v', N w1 v1 ∧ e = .returned v' ∧ Ext base w1 v1 w' v' (T ++ flatW dataW l) := by
  obtain ⟨a, c, rfl, lm, -, lx⟩ := LstA.open h
  obtain ⟨n, en⟩ : ∃ n, l.length = n := ⟨_, rfl⟩
  rw [en] at lm lx hl NM ⊢
  have LX : Hid (∀ k, k < n → ∃ b off x, a = some ⟨b, off, none⟩ ∧ A b ∧ l[k]? = some x ∧ DataAt A w0 b (off + k * 7) x) := lx
  have EN : Hid (l.length = n) := en
  have HLOW : Hid (w0.heap.size ≤ base ∧ Below base w0 w) := ⟨h0, hlow⟩
  have HNM : Hid (Calls Tryd.prog 51 #[v, .int .i64 n, .int .i64 2] w fun e w1 => ∃ v1, e = .returned v1 ∧ N w1 v1) := NM
  have HN : Hid (∀ w1 v1, N w1 v1 → OwnB base w1 v1 T ∧ Below base w w1 ∧ base ≤ w1.heap.size) := hN
  have HZ : Hid (T.length + (flatW dataW l).length ≤ 3000000) := hsz
  have HOK := Hid.mk0 ok
  have hn : (n : Int) ≤ 65535 := by omega
  clear h lx en lm h0 hlow NM hN hsz ok
  go_enter Tryd.func35, Tryd.ntmps35
  go_wp2_with (go_at_call 51; refine HNM.out.mono ?_; rintro e w1 ⟨v1, rfl, hN1⟩)
  have N1 := Hid.mk0 hN1
  obtain ⟨o1, b1, s1⟩ := HN.out w1 v1 hN1
  have Z1 : Hid (Ext base w1 v1 w1 v1 T) := Ext.refl o1
  have LB : Hid (Below base w0 w1 ∧ base ≤ w1.heap.size ∧ ∀ q, v1.ownBlock = some q → base ≤ q) := ⟨HLOW.out.2.trans b1, s1, fun q hq => (own_q o1 q hq).1⟩
  clear hN1 o1 b1 s1
  go_loopw [0, 15] (fun ov iv wr => ∃ k : Nat, k ≤ n ∧ iv = .int .i64 k ∧ Ext base w1 v1 wr ov (T ++ flatW dataW (l.take k))) (fun _ iv _ => n - (intOf iv).toNat)
  case atStart => exact ⟨0, Nat.zero_le _, rfl, by rw [List.take_zero]; show Ext base w1 v1 w1 v1 (T ++ []); rw [List.append_nil]; exact Z1.out⟩
  case round =>
    obtain ⟨k, hk, rfl, he⟩ := hrel
    have HE := Hid.mk0 he
    clear he Z1
    by_cases hlt : k < n
    · have hlt' : (k : Int) < n := by omega
      obtain ⟨q, off, ⟨xn, xb, xa, xf, xz, xc, xr⟩, rfl, -, hx, vc, vr, x0, x1, x2, x3, x4, x5, x6, hc, hr, hs⟩ := LX.out k hlt
      dsimp only at x0 x1 x2 x3 x4 x5 x6 hc hr hs
      obtain ⟨ca, cc, rfl, -, -, -⟩ := LstA.open (id hc.1)
      obtain ⟨ra, rc, rfl, -, -, -⟩ := LstA.open (id hr)
      have HC := Hid.mk0 hc
      have HR := Hid.mk0 hr
      have HS := Hid.mk0 hs
      clear hc hr hs
      have HX : Hid (l[k]? = some ⟨xn, xb, xa, xf, xz, xc, xr⟩) := hx
      have SZ2 : Hid ((T ++ flatW dataW (l.take k)).length + (dataW ⟨xn, xb, xa, xf, xz, xc, xr⟩).length ≤ 3000000) := by
        have h1 := flat_le2 (wr := dataW) hx
        have := HZ.out
        unfold Hid
        rw [List.length_append]
        omega
      have BW : Hid (Below base w0 wr) := LB.out.1.trans (HE.out.below LB.out.2.2 LB.out.2.1)
      replace x0 := cell_base x0 BW.out (Nat.lt_of_lt_of_le (World.block_lt_of_cell? w0 _ x0) HLOW.out.1)
      replace x1 := cell_base x1 BW.out (Nat.lt_of_lt_of_le (World.block_lt_of_cell? w0 _ x1) HLOW.out.1)
      replace x2 := cell_base x2 BW.out (Nat.lt_of_lt_of_le (World.block_lt_of_cell? w0 _ x2) HLOW.out.1)
      replace x3 := cell_base x3 BW.out (Nat.lt_of_lt_of_le (World.block_lt_of_cell? w0 _ x3) HLOW.out.1)
      replace x4 := cell_base x4 BW.out (Nat.lt_of_lt_of_le (World.block_lt_of_cell? w0 _ x4) HLOW.out.1)
      replace x5 := cell_base x5 BW.out (Nat.lt_of_lt_of_le (World.block_lt_of_cell? w0 _ x5) HLOW.out.1)
      replace x6 := cell_base x6 BW.out (Nat.lt_of_lt_of_le (World.block_lt_of_cell? w0 _ x6) HLOW.out.1)
      clear hx
      go_upto_region 5 with fail
      have UP := keep_alloc8 (Below.refl _ wr) (.cells #[.string xn, .int .i64 xb, .int .i64 xa, .bool xf, .int .i64 xz, .slice ca xc.length cc, .slice ra xr.length rc] 25)
      have HE2 : Hid (Ext base w1 v1 (wr.alloc (.cells #[.string xn, .int .i64 xb, .int .i64 xa, .bool xf, .int .i64 xz, .slice ca xc.length cc, .slice ra xr.length rc] 25)) _ (T ++ flatW dataW (l.take k))) := HE.out.later UP
      have X3 : Hid (XAt (wr.alloc (.cells #[.string xn, .int .i64 xb, .int .i64 xa, .bool xf, .int .i64 xz, .slice ca xc.length cc, .slice ra xr.length rc] 25)) wr.heap.size [.string xn, .int .i64 xb, .int .i64 xa, .bool xf, .int .i64 xz, .slice ca xc.length cc, .slice ra xr.length rc]) := XAt.new _ _ _
      generalize wr.alloc (.cells #[.string xn, .int .i64 xb, .int .i64 xa, .bool xf, .int .i64 xz, .slice ca xc.length cc, .slice ra xr.length rc] 25) = w2 at HE2 X3 UP ⊢
      have BW2 : Hid (Below base w0 w2 ∧ base ≤ w2.heap.size) := ⟨LB.out.1.trans (HE2.out.below LB.out.2.2 LB.out.2.1), Nat.le_trans LB.out.2.1 HE2.out.size⟩
      clear UP x0 x1 x2 x3 x4 x5 x6
      have x0 := X3.out.1 0 _ rfl
      have x1 := X3.out.1 1 _ rfl
      have x2 := X3.out.1 2 _ rfl
      have x3 := X3.out.1 3 _ rfl
      have x4 := X3.out.1 4 _ rfl
      have x5 := X3.out.1 5 _ rfl
      have x6 := X3.out.1 6 _ rfl
      go_wp2_with (go_at_call 36; refine (put_data (A := A) (w0 := w0) (d := ⟨xn, xb, xa, xf, xz, xc, xr⟩) ⟨_, _, rfl, HC.out, HR.out, HS.out⟩ (HOK.out _ (List.mem_of_getElem? HX.out)) HLOW.out.1 BW2.out.1 HE2.out.own BW2.out.2 SZ2.out).mono ?_; rintro e w3 ⟨v3, rfl, Z⟩)
      go_roundw
      case rel => exact ⟨k + 1, by omega, by go_num, by rw [flat_next HX.out, ← List.append_assoc]; exact HE2.out.trans Z⟩
      case measure => simp [intOf]; omega
    · obtain rfl : k = n := by omega
      go_wp2
      go_ret
      have h := HE.out
      rw [← EN.out, List.take_length] at h
      exact ⟨w1, v1, _, N1.out, rfl, h⟩
theorem put_datas {l : List DataM} (h : IsDatas A w0 vl l) (h0 : w0.heap.size ≤ base) (hlow : Below base w0 w) (hown : OwnB base w v out) (hbase : base ≤ w.heap.size) (hl : l.length ≤ 65535) (ok : ∀ d ∈ l, dataOk d) (hsz : out.length + (listW dataW l).length ≤ 3000000) :
    Calls Tryd.prog 35 #[v, vl, .func (.func 36) #[] #[]] w (Puts base w v (out ++ listW dataW l)) := by
  have e : listW dataW l = digL 2 (l.length : Int) ++ flatW dataW l := rfl
  have hz : out.length + 2 + (flatW dataW l).length ≤ 3000000 := by rw [e, List.length_append, digL_len] at hsz; omega
  have hq : ∀ q, v.ownBlock = some q → base ≤ q := fun q hq => (own_q hown q hq).1
  refine (put_datas0 (T := out ++ digL 2 (l.length : Int)) (fun w1 v1 => Ext base w v w1 v1 (out ++ digL 2 (l.length : Int))) h h0 hlow hl ok ?_ (fun w1 v1 h => ⟨h.own, h.below hq hbase, Nat.le_trans hbase h.size⟩) (by rw [List.length_append, digL_len]; omega)).mono ?_
  · exact put_num hown hbase (l.length : Int) 2 (by omega) (by omega) (by omega) (by omega) (by omega)
  · rintro e' w' ⟨w1, v1, v', h1, rfl, h2⟩
    rw [e, ← List.append_assoc]
    exact ⟨v', rfl, h1.trans h2⟩
end
open Go.ChangeShapes Go.WideShapes Go.ChangeAt Go.RowKit
set_option linter.unusedVariables false
set_option linter.unusedSimpArgs false
set_option maxRecDepth 100000 in
set_option maxHeartbeats 2000000 in
theorem write_all {A : Nat → Prop} {w : World} {v : Value} {p : ObjM} (h : IsObj A w v p) : Calls Tryd.prog 26 #[v] w (WritePost w p) := by
  have HI := Hid.mk0 h
  have RT : Hid (∀ W, Below w.heap.size w W → Calls Tryd.prog 32 #[v] W fun e w' => Says e (objOk p) ∧ Below W.heap.size W w') := fun W hW => oright_any (h.keep (Stay.of_below hW))
  obtain ⟨vf, vd, vn, rfl, hf, hd, hn⟩ := h
  have HF := Hid.mk0 hf
  have HD := Hid.mk0 hd
  have HN := Hid.mk0 hn
  obtain ⟨fa, fc, rfl, -, -, -⟩ := LstA.open (id hf)
  obtain ⟨da, dc, rfl, -, -, -⟩ := LstA.open (id hd)
  obtain ⟨na, nc, rfl, -, -, -⟩ := LstA.open (id hn)
  clear hf hd hn
  have UP : Hid (Below w.heap.size w (w.alloc (.cells #[.slice fa p.funcs.length fc, .slice da p.datas.length dc, .slice na p.notes.length nc] 43))) := keep_alloc8 (Below.refl _ _) _
  have X1 : Hid (XAt (w.alloc (.cells #[.slice fa p.funcs.length fc, .slice da p.datas.length dc, .slice na p.notes.length nc] 43)) w.heap.size [.slice fa p.funcs.length fc, .slice da p.datas.length dc, .slice na p.notes.length nc]) := XAt.new _ _ _
  go_enter Tryd.func26, Tryd.ntmps26
  go_upto_region 1 with fail
  generalize w.alloc (.cells #[.slice fa p.funcs.length fc, .slice da p.datas.length dc, .slice na p.notes.length nc] 43) = w0 at UP X1 ⊢
  have hX : Hid (w.heap.size < w0.heap.size) := X1.out.lt (by simp)
  have y0 := X1.out.1 0 _ rfl
  have y1 := X1.out.1 1 _ rfl
  have y2 := X1.out.1 2 _ rfl
  by_cases ok : objOk p
  rotate_left
  · have NO := Hid.mk0 ok
    clear ok
    go_wp2_with (go_at_call 32; refine (RT.out _ UP.out).mono ?_; rintro e w1 ⟨hsay, b1⟩; obtain rfl := hsay.no' NO.out; clear hsay)
    exact bodyPost_ret (by simp [results, Tryd.results26, go_sem]) rfl ⟨.inr ⟨NO.out, none, 0, rfl⟩, bnext UP.out b1⟩
  have hT := objW_len p ok
  have OK := Hid.mk0 ok
  have HT := Hid.mk0 hT
  clear ok hT
  go_upto_region 3 with (go_at_call 32; refine (RT.out _ UP.out).mono ?_; rintro e w1 ⟨hsay, b1⟩; obtain rfl := hsay.yes' OK.out; clear hsay)
  have B1 : Hid (Below w0.heap.size w0 w1) := b1
  clear b1 y0 y1 y2
  have hcv := Lib.run_convert_bytes_const (P := Tryd.prog) w1 22 5 #[.int .u8 83, .int .u8 80, .int .u8 76, .int .u8 49] 4 4 Tryd.underlying22 Tryd.underlying5
  go_upto_region 4 with fail
  clear hcv
  have B2 : Hid (Below w1.heap.size w1 (w1.alloc (.cells #[.int .u8 83, .int .u8 80, .int .u8 76, .int .u8 49] 5 (4, 5)))) := keep_alloc8 (Below.refl _ _) _
  have C2 : Hid (∀ W, Below (w1.alloc (.cells #[.int .u8 83, .int .u8 80, .int .u8 76, .int .u8 49] 5 (4, 5))).heap.size (w1.alloc (.cells #[.int .u8 83, .int .u8 80, .int .u8 76, .int .u8 49] 5 (4, 5))) W → ∀ b, some (⟨w1.heap.size, 0, none⟩ : Addr) = some b → ∀ j u, (splL.map fun x => Value.int .u8 x)[j]? = some u → W.cell? (b.add j) = some u) := fun W hW b e j u hu => by
    cases e
    rw [show (⟨w1.heap.size, 0, none⟩ : Addr).add j = ⟨w1.heap.size, j, none⟩ from by cases j <;> simp [Addr.add]]
    refine cell_later' ?_ hW
    rw [World.cell?_alloc_mark, ← Array.getElem?_toList]
    exact hu
  generalize w1.alloc (.cells #[.int .u8 83, .int .u8 80, .int .u8 76, .int .u8 49] 5 (4, 5)) = w2 at B2 C2 ⊢
  have BW : Hid (Below w.heap.size w w2 ∧ Below w0.heap.size w0 w2) := ⟨bnext (bnext UP.out B1.out) B2.out, bnext B1.out B2.out⟩
  have HF2 : Hid (IsFuncs A w2 (.slice fa p.funcs.length fc) p.funcs) := HF.out.keep (Stay.of_below BW.out.1)
  have HD2 : Hid (IsDatas A w2 (.slice da p.datas.length dc) p.datas) := HD.out.keep (Stay.of_below BW.out.1)
  have HN2 : Hid (IsNotes A w2 (.slice na p.notes.length nc) p.notes) := HN.out.keep (Stay.of_below BW.out.1)
  have X2 : Hid (XAt w2 w.heap.size [.slice fa p.funcs.length fc, .slice da p.datas.length dc, .slice na p.notes.length nc] ∧ w.heap.size < w2.heap.size) := ⟨X1.out.later hX.out BW.out.2, Nat.lt_of_lt_of_le hX.out BW.out.2.size⟩
  have PF : Hid (Calls Tryd.prog 33 #[.slice (some ⟨w1.heap.size, 0, none⟩) 4 4, .slice fa p.funcs.length fc, .func (.func 34) #[] #[]] w2 fun e w' => ∃ v', e = .returned v' ∧ OwnB w2.heap.size w' v' (splL ++ listW funcW p.funcs) ∧ Below w2.heap.size w2 w') := by
    refine (put_funcs0 (base := w2.heap.size) (w0 := w2) (T := splL ++ digL 2 (p.funcs.length : Int)) (fun w3 v3 => OwnB w2.heap.size w3 v3 (splL ++ digL 2 (p.funcs.length : Int)) ∧ Below w2.heap.size w2 w3) HF2.out (Nat.le_refl _) (Below.refl _ _) (by have := OK.out.1.1; omega) OK.out.1.2 (put_num0 (cap := 4) C2.out rfl (by omega) _ 2 (by omega) (by have := OK.out.1.1; omega) (by omega) (by omega)) (fun w3 v3 h => ⟨h.1, h.2, h.2.size⟩) (by rw [List.length_append, digL_len, show splL.length = 4 from rfl]; have := HT.out; omega)).mono ?_
    rintro e w' ⟨w3, v3, v', h1, rfl, h2⟩
    refine ⟨v', rfl, ?_, h1.2.trans (h2.below (fun q hq => (own_q h1.1 q hq).1) h1.2.size)⟩
    have e : splL ++ listW funcW p.funcs = splL ++ digL 2 (p.funcs.length : Int) ++ flatW funcW p.funcs := by unfold listW; rw [List.append_assoc]
    rw [e]; exact h2.own
  have y0 := X2.out.1.1 0 _ rfl
  clear HF HD HN HF2 HI RT C2
  obtain ⟨U1, eU1⟩ : ∃ U, splL ++ listW funcW p.funcs = U := ⟨_, rfl⟩
  have ZU1 : Hid (U1.length = 6 + (flatW funcW p.funcs).length) := by rw [← eU1]; unfold listW Hid; simp only [List.length_append, digL_len, show splL.length = 4 from rfl]; omega
  have EU1 := Hid.mk0 eU1
  rw [eU1] at PF
  clear eU1
  go_upto_region 5 with (go_at_call 33; refine PF.out.mono ?_; rintro e w3 ⟨v3, rfl, o3, b3⟩)
  have y1 := (X2.out.1.later X2.out.2 b3).1 1 _ rfl
  have O3 := Hid.mk0 o3
  have B3 := Hid.mk0 b3
  clear y0 o3 b3 PF
  have PD : Hid (Calls Tryd.prog 35 #[v3, .slice da p.datas.length dc, .func (.func 36) #[] #[]] w3 fun e w' => ∃ v', e = .returned v' ∧ OwnB w2.heap.size w' v' (U1 ++ listW dataW p.datas) ∧ Below w2.heap.size w2 w') := by
    refine (put_datas HD2.out (Nat.le_refl _) B3.out O3.out B3.out.size (by have := OK.out.2.1.1; omega) OK.out.2.1.2 (by unfold listW; simp only [List.length_append, digL_len]; have := HT.out; have := ZU1.out; omega)).mono ?_
    rintro e w' ⟨v', rfl, h2⟩
    exact ⟨v', rfl, h2.own, B3.out.trans (h2.below (fun q hq => (own_q O3.out q hq).1) B3.out.size)⟩
  obtain ⟨U2, eU2⟩ : ∃ U, U1 ++ listW dataW p.datas = U := ⟨_, rfl⟩
  have ZU2 : Hid (U2.length = 8 + (flatW funcW p.funcs).length + (flatW dataW p.datas).length) := by rw [← eU2]; unfold listW Hid; simp only [List.length_append, digL_len]; have := ZU1.out; omega
  have EU2 := Hid.mk0 eU2
  rw [eU2] at PD
  clear eU2
  go_upto_region 6 with (go_at_call 35; refine PD.out.mono ?_; rintro e w4 ⟨v4, rfl, o4, b4⟩)
  have y2 := (X2.out.1.later X2.out.2 b4).1 2 _ rfl
  have O4 := Hid.mk0 o4
  have B4 := Hid.mk0 b4
  clear y1 o4 b4 PD
  have PN : Hid (Calls Tryd.prog 37 #[v4, .slice na p.notes.length nc, .func (.func 38) #[] #[]] w4 fun e w' => ∃ v', e = .returned v' ∧ OwnB w2.heap.size w' v' (U2 ++ listW noteW p.notes) ∧ Below w2.heap.size w2 w') := by
    refine (put_notes HN2.out (Nat.le_refl _) B4.out O4.out B4.out.size (by have := OK.out.2.2.1; omega) OK.out.2.2.2 (by unfold listW; simp only [List.length_append, digL_len]; have := HT.out; have := ZU2.out; omega)).mono ?_
    rintro e w' ⟨v', rfl, h2⟩
    exact ⟨v', rfl, h2.own, B4.out.trans (h2.below (fun q hq => (own_q O4.out q hq).1) B4.out.size)⟩
  go_wp2_with (go_at_call 37; refine PN.out.mono ?_; rintro e w5 ⟨v5, rfl, o5, b5⟩)
  have fin : OwnB w.heap.size w5 v5 (objW p) := by
    have e : objW p = U2 ++ listW noteW p.notes := by rw [← EU2.out, ← EU1.out]; unfold objW; simp only [List.append_assoc]
    rw [e]; exact own_less o5 (Nat.le_of_lt X2.out.2)
  exact bodyPost_ret (by simp [results, Tryd.results26, go_sem]) rfl ⟨.inl ⟨OK.out, v5, rfl, fin⟩, bnext BW.out.1 b5⟩
end Go.Proofs.YtnejpldbokodaaaDoor
