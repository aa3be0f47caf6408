/- What is asked of the code's own Write, Read and Same. What the document's own Write returns. What the code puts behind bytes. -/
import Derived.Test.YteakbpcmafdikaaGreatDoorNmPut
import Derived.Test.YteakbpcmafdikaaGreatDoorNmOwn
import Derived.ArgAppend
import Derived.Lib.SlBytesConst
import Derived.Test.YteakbpcmafdikaaGreatDoorObjRt1
import Derived.Test.YteakbpcmafdikaaGreatDoorNmTk
namespace Go.Proofs.YteakbpcmafdikaaGreatDoor
open Go.ChangeShapes Go.WideShapes Go.ChangeAt Go.RowKit
theorem IsObj.open {A : Nat → Prop} {w : World} {u : Value} {p : ObjM} (h : IsObj A w u p) : ∃ fa fc da dc na nc, u = .agg #[.slice fa p.funcs.length fc, .slice da p.datas.length dc, .slice na p.notes.length nc] := by
  obtain ⟨vf, vd, vn, rfl, hf, hd, hn⟩ := h
  obtain ⟨fa, fc, rfl, -, -, -⟩ := LstA.open hf
  obtain ⟨da, dc, rfl, -, -, -⟩ := LstA.open hd
  obtain ⟨na, nc, rfl, -, -, -⟩ := LstA.open hn
  exact ⟨_, _, _, _, _, _, rfl⟩
/-- New blocks. -/
def Fresh (base : Nat) (w : World) : Nat → Prop := fun k => base ≤ k ∧ k < w.heap.size
/-- The data's bytes may be written to, and lie apart from the data. -/
def Loose (w : World) (u : Value) : Prop := ∀ vf vd vn, u = .agg #[vf, vd, vn] → ∀ b off n c, vd = .slice (some ⟨b, off, none⟩) n c → ∀ i, i < n → ∀ q o m cc, w.cell? ⟨b, off + i * 7 + 5, none⟩ = some (.slice (some ⟨q, o, none⟩) m cc) → q ≠ b ∧ ∀ j, j < m → w.frozen? ⟨q, o + j, none⟩ = false
/-- What Write answers. -/
def WritePost (w : World) (p : ObjM) (e : Ending) (w' : World) : Prop :=
  ((objOk p ∧ ∃ v', e = .returned (.tuple #[v', .int .i64 0]) ∧ OwnB w.heap.size w' v' (objW p)) ∨ (¬ objOk p ∧ ∃ a c, e = .returned (.tuple #[.slice a 0 c, .int .i64 4]))) ∧ Below w.heap.size w w'
/-- What Read answers. -/
def ReadPost (w : World) (l : Bs) (e : Ending) (w' : World) : Prop :=
  (∃ u, e = .returned (.tuple #[u, .int .i64 (readO l).2]) ∧ IsObj (Fresh w.heap.size w') w' u (readO l).1 ∧ Loose w' u) ∧ Below w.heap.size w w'
open Go.ChangeShapes Go.WideShapes Go.ChangeAt Go.RowKit
set_option linter.unusedVariables false
set_option linter.unusedSimpArgs false
theorem dig4_bytes (x : Int) (h0 : 0 ≤ x) (h1 : x < 4294967296) : (bytesOf x).toList = (digL 4 x).map fun x => .int .u8 x := by
  have e : digL 4 x = [x % 256, x / 256 % 256, x / 65536 % 256, x / 16777216] := by
    show [x % 256, x / 256 % 256, x / 256 / 256 % 256, x / 256 / 256 / 256 % 256] = _
    rw [show x / 256 / 256 % 256 = x / 65536 % 256 from by omega, show x / 256 / 256 / 256 % 256 = x / 16777216 from by omega]
  rw [e]; rfl
theorem flat4_len (l : List Int) : (flatW (digL 4) l).length = 4 * l.length := by
  induction l with
  | nil => rfl
  | cons x l ih => show (digL 4 x ++ flatW (digL 4) l).length = _; rw [List.length_append, digL_len, ih, List.length_cons]; omega
theorem nameW_len (t : ByteArray) : (nameW t).length = 1 + t.size := by unfold nameW; rw [List.length_append, digL_len, bytesL_len]
theorem flat_bound {α : Type} {wr : α → Bs} {B : Nat} {l : List α} (h : ∀ x ∈ l, (wr x).length ≤ B) : (flatW wr l).length ≤ l.length * B := by
  induction l with
  | nil => simp [flatW]
  | cons x l ih =>
    have e : flatW wr (x :: l) = wr x ++ flatW wr l := by simp [flatW]
    rw [e, List.length_append, List.length_cons, Nat.add_mul, Nat.one_mul]
    have := h x (List.mem_cons_self ..)
    have := ih fun y hy => h y (List.mem_cons_of_mem _ hy)
    omega
def relsOk' (l : List RelM) : Prop := l.length ≤ 64 ∧ ∀ r ∈ l, relOk r
def B9 (z : Int) (B : Array Value) : Prop := B.toList = (digL 4 z).map fun x => .int .u8 x
theorem Hid.mk9 {P : Prop} (h : P) : Hid P := h
theorem dig3 {b g f : Int} {x : Bool} (hb : 0 ≤ b ∧ b ≤ 255) (hg : 0 ≤ g ∧ g ≤ 255) (hf : f = fixW x) : #[Value.int .u8 b, .int .u8 g, .int .u8 f].toList = (digL 1 b ++ digL 1 g ++ digL 1 (fixW x)).map fun x => .int .u8 x := by
  rw [dig1 hb.1 (by omega), dig1 hg.1 (by omega), hf, dig1 (by cases x <;> decide) (by cases x <;> decide)]
  rfl
theorem rels_bound {l : List RelM} (h : relsOk' l) : (listW relW l).length ≤ 2562 := by
  unfold listW
  rw [List.length_append, digL_len]
  have := flat_bound (wr := relW) (B := 40) (l := l) fun r hr => by rw [relW_len]; have := named_len (h.2 r hr).2.2.1; omega
  have := h.1
  omega
theorem funcW_len (f : FuncM) : (funcW f).length = 1 + f.name.size + 1 + (2 + 4 * f.code.length) + (listW relW f.rels).length := by
  unfold funcW listW
  simp only [List.length_append, digL_len, nameW_len, flat4_len]
  omega
theorem dataW_len (d : DataM) : (dataW d).length = 1 + d.name.size + 3 + 2 + (2 + d.bytes.length) + (listW relW d.rels).length := by
  unfold dataW bytesW
  simp only [List.length_append, digL_len, nameW_len]
  omega
theorem noteW_len (x : NoteM) : (noteW x).length = 2 + x.name.size := by
  unfold noteW
  simp only [List.length_append, digL_len, nameW_len]
  omega
theorem objW_len (p : ObjM) (h : objOk p) : (flatW funcW p.funcs).length + (flatW dataW p.datas).length + (flatW noteW p.notes).length ≤ 1900000 := by
  have h1 := flat_bound (wr := funcW) (B := 10700) (l := p.funcs) fun f hf => by
    have hk := h.1.2 f hf
    rw [funcW_len]; have := named_len hk.1; have := rels_bound hk.2.2.2; have := hk.2.2.1.1; omega
  have h2 := flat_bound (wr := dataW) (B := 6800) (l := p.datas) fun d hd => by
    have hk := h.2.1.2 d hd
    rw [dataW_len]; have := named_len hk.1; have := rels_bound hk.2.2.2.2.2; have := hk.2.2.2.2.1.1; omega
  have h3 := flat_bound (wr := noteW) (B := 40) (l := p.notes) fun x hx => by
    have hk := h.2.2.2 x hx
    rw [noteW_len]; have := named_len hk.1; omega
  have := h.1.1; have := h.2.1.1; have := h.2.2.1
  omega
open Go.ChangeShapes Go.WideShapes Go.ChangeAt Go.RowKit
set_option linter.unusedVariables false
set_option linter.unusedSimpArgs false
/-- The row v' of the world w' came of the row v of w: it is one's own, nothing else that was there is turned. -/
structure Ext (base : Nat) (w : World) (v : Value) (w' : World) (v' : Value) (out : Bs) : Prop where
  own : OwnB base w' v' out
  gr : w.grownBy w' v.ownBlock
  wh : ∀ q, v'.ownBlock = some q → v.ownBlock = some q ∨ w.heap.size ≤ q
section
variable {base : Nat} {w w1 w2 : World} {v v1 v2 : Value} {out out' : Bs}
theorem Ext.refl (h : OwnB base w v out) : Ext base w v w v out := ⟨h, ⟨rfl, rfl, rfl, Nat.le_refl _, fun _ _ _ => rfl⟩, fun q hq => .inl hq⟩
theorem Ext.trans (h : Ext base w v w1 v1 out) (h' : Ext base w1 v1 w2 v2 out') : Ext base w v w2 v2 out' := by
  refine ⟨h'.own, ⟨h'.gr.os.trans h.gr.os, h'.gr.tape.trans h.gr.tape, h'.gr.output.trans h.gr.output, Nat.le_trans h.gr.size h'.gr.size, fun k hk hn => (h'.gr.block k (Nat.lt_of_lt_of_le hk h.gr.size) fun e => ?_).trans (h.gr.block k hk hn)⟩, fun q hq => ?_⟩
  · rcases h.wh k e.symm with h1 | h1
    · exact hn h1.symm
    · omega
  · rcases h'.wh q hq with h1 | h1
    · exact h.wh q h1
    · exact .inr (Nat.le_trans h.gr.size h1)
theorem Ext.later (h : Ext base w v w1 v1 out) (hb : Below w1.heap.size w1 w2) : Ext base w v w2 v1 out :=
  ⟨h.own.later hb, ⟨hb.os.trans h.gr.os, hb.tape.trans h.gr.tape, hb.output.trans h.gr.output, Nat.le_trans h.gr.size hb.size, fun k hk hn => (hb.block k (Nat.lt_of_lt_of_le hk h.gr.size)).trans (h.gr.block k hk hn)⟩, h.wh⟩
/-- What came of a world made later out of the first one. -/
theorem Ext.after (hb : Below w.heap.size w w1) (h : Ext base w1 v w2 v2 out) : Ext base w v w2 v2 out :=
  ⟨h.own, ⟨h.gr.os.trans hb.os, h.gr.tape.trans hb.tape, h.gr.output.trans hb.output, Nat.le_trans hb.size h.gr.size, fun k hk hn => (h.gr.block k (Nat.lt_of_lt_of_le hk hb.size) hn).trans (hb.block k hk)⟩, fun q hq => (h.wh q hq).imp id fun h => Nat.le_trans hb.size h⟩
theorem Ext.below (h : Ext base w v w1 v1 out) (hv : ∀ q, v.ownBlock = some q → base ≤ q) (hb : base ≤ w.heap.size) : Below base w w1 := Below.grown (Below.refl _ _) h.gr hb hv
theorem Ext.size (h : Ext base w v w1 v1 out) : w.heap.size ≤ w1.heap.size := h.gr.size
/-- A block that isn't the row's stands. -/
theorem Ext.xat (h : Ext base w v w1 v1 out) {X : Nat} {cs : List Value} (hx : XAt w X cs) (hX : X < w.heap.size) (hn : v.ownBlock ≠ some X) : XAt w1 X cs := hx.keep (h.gr.block X hX fun e => hn e.symm)
theorem Ext.not (h : Ext base w v w1 v1 out) {X : Nat} (hX : X < w.heap.size) (hn : v.ownBlock ≠ some X) : v1.ownBlock ≠ some X := fun e => by
  rcases h.wh X e with h1 | h1
  · exact hn h1
  · omega
end
theorem own_q {base : Nat} {w : World} {v : Value} {out : Bs} (h : OwnB base w v out) : ∀ q, v.ownBlock = some q → base ≤ q ∧ q < w.heap.size := fun q hq => World.ownsRow.lt h q hq
theorem dig_src {w : World} {base : Nat} {a : Option Addr} {c k : Nat} {x : Int} (h : w.ownsRow base 5 1 (.slice a k c) k (cellsK .u8 k fun i => x / 256 ^ i % 256)) : Src w a c (digL k x) := by
  have e : cellsK .u8 k (fun i => x / 256 ^ i % 256) = (digL k x).map fun z => .int .u8 z := by
    have h2 := cellsK_map .u8 (digL k x)
    rw [digL_len] at h2
    rw [← h2]
    exact cellsK_congr .u8 k fun j hj => (digL_get k x j hj).symm
  have hl := digL_len k x
  rw [e] at h
  refine src_own (base := base) ?_
  unfold OwnB
  rw [hl]; exact h
theorem name_src {w : World} {base : Nat} {a : Option Addr} {c : Nat} {s : ByteArray} (hs : s.size ≤ 255) (h : w.ownsRow base 5 1 (.slice a (s.size + 1) c) (s.size + 1) (cellsK .u8 (s.size + 1) fun i => if i = 0 then (s.size : Int) else byteZ s (i - 1))) : Src w a c (nameW s) := by
  have hl : (nameW s).length = s.size + 1 := by rw [nameW_len]; omega
  have e : cellsK .u8 (s.size + 1) (fun i => if i = 0 then (s.size : Int) else byteZ s (i - 1)) = (nameW s).map fun z => .int .u8 z := by
    have h2 := cellsK_map .u8 (nameW s)
    rw [hl] at h2
    rw [← h2]
    refine cellsK_congr .u8 _ fun j hj => ?_
    have e1 : nameW s = (s.size : Int) :: bytesL s := by unfold nameW; rw [dig1 (by omega) (by omega)]; rfl
    rw [e1]
    rcases j with _ | j
    · rfl
    · rw [if_neg (by omega)]
      show byteZ s (j + 1 - 1) = gF (bytesL s) j
      have hj' : j < s.data.size := by have : s.size = s.data.size := rfl; omega
      have hb : j < (bytesL s).length := by rw [bytesL_len]; exact hj'
      have h3 := gF_get hb
      have h5 : s.data[j]? = some s.data[j] := Array.getElem?_eq_getElem hj'
      have h4 : (bytesL s)[j]? = some ((s.data[j]).toNat : Int) := by simp [bytesL, h5]
      rw [h4] at h3
      rw [← Option.some.inj h3]
      simp [byteZ, h5]
  rw [e] at h
  refine src_own (base := base) ?_
  unfold OwnB
  rw [hl]; exact h
/-- 'append(out, l...)', told as Ext. -/
theorem wpList_ext {W : World} {ops : Array Oper} {rest : List Oper} {op : Oper} {a : Act} {Q : Exit → Act → World → Prop} (hgd : op.guard = none) (s x : Operand)
    (ho : op.op = .call { callee := .builtin .append, args := #[s, x], argTypes := #[39, 39] })
    (base : Nat) (v : Value) (out : Bs) (hs : a.eval s = v) (hown : OwnB base W v out) (sp : Option Addr) (m c : Nat) (l : Bs) (hx : a.eval x = .slice sp m c) (hl : l.length = m) (hsrc : Src W sp c l) (h63 : out.length + m ≤ 3000000) (hbase : base ≤ W.heap.size)
    (h : ∀ v' w', Ext base W v w' v' (out ++ l) → wpList Tryz.prog ops Q rest (a.put op.dst v') w') : wpList Tryz.prog ops Q (op :: rest) a W := by
  obtain ⟨i0, hi0, hz0, hz1, hz2⟩ := info_parts slB
  have hcells : (l.map fun x => Value.int .u8 x).length = m * 1 := by rw [List.length_map, hl, Nat.mul_one]
  have hone : ∀ u ∈ (l.map fun x => Value.int .u8 x), u.oneCell' = true := by intro u hu; obtain ⟨y, _, rfl⟩ := List.mem_map.mp hu; rfl
  have hr : ∃ a' cap' w', (Builtin.append_ #[39, 39] op.type #[v, .slice sp m c]).run Tryz.prog W = .ok (.slice a' (out.length + m) cap') w' ∧ w'.ownsRow base 5 1 (.slice a' (out.length + m) cap') (out.length + m) ((out.map fun x => .int .u8 x) ++ (l.map fun x => .int .u8 x)) ∧ W.grownBy w' v.ownBlock ∧ (∀ q, a' = some q → v.ownBlock = some q.block ∨ q.block = W.heap.size) := by
    cases sp with
    | none =>
      obtain ⟨rfl, rfl⟩ := hsrc.1 rfl
      subst hl
      obtain ⟨a, cap, rfl⟩ := own_form hown
      exact ⟨a, cap, W, run_append_owned_none (P := Tryz.prog) (w := W) base 39 op.type 5 i0 1 Tryz.underlying39 hi0 _ _ _ hown, by have h := hown; unfold OwnB at h; simpa using h, World.grownBy.refl W _, fun q e => .inl (by rw [e]; rfl)⟩
    | some ad =>
      obtain ⟨v', w', hr, h2, h3, _, h5⟩ := run_append_own_at (P := Tryz.prog) W base 39 op.type 5 i0 _ 1 1 Tryz.underlying39 hi0 hz0 hz1 hz2 rfl (by decide) v out.length _ hown ad m c _ hcells (hsrc.2 ad rfl) hone (by unfold maxLen; omega) (by omega) hbase
      obtain ⟨a, cap, rfl⟩ := own_form h2
      refine ⟨a, cap, w', hr, h2, h3, fun q e => ?_⟩
      subst e
      rcases h5 with h5 | h5
      · exact .inl (by rw [← h5]; rfl)
      · exact .inr (by simpa [Value.ownBlock] using h5)
  obtain ⟨a', cap', w', hr, h2, h3, h4⟩ := hr
  refine wpList_plain hgd fun _ hK => ?_
  unfold Oper.wp execOp
  simp only [ho, resolve, invoke, builtin, Sem.run_bind, Sem.run_pure, Result.andThen_ok, List.map_toArray, List.map_cons, List.map_nil, hs, hx, hr]
  refine hK _ _ (h _ w' ⟨?_, h3, fun q hq => ?_⟩)
  · unfold OwnB
    rw [List.length_append, hl, List.map_append]
    exact h2
  · obtain ⟨p, e1, e2⟩ := own_some hq
    rcases h4 p e1 with h | h
    · exact .inl (by rw [← e2]; exact h)
    · exact .inr (by omega)
/-- What a putter answers. -/
def Puts (base : Nat) (w : World) (v : Value) (l : Bs) (e : Ending) (w' : World) : Prop := ∃ v', e = .returned v' ∧ Ext base w v w' v' l
section
variable {base : Nat} {w : World} {v u : Value} {out : Bs}
theorem put_num (hown : OwnB base w v out) (hbase : base ≤ w.heap.size) (x : Int) (k : Nat) (x0 : 0 ≤ x) (x1 : x < 4294967296) (k0 : 1 ≤ k) (k1 : k ≤ 4) (hsz : out.length + k ≤ 3000000) :
    Calls Tryz.prog 102 #[v, .int .i64 x, .int .i64 k] w (Puts base w v (out ++ digL k x)) := by
  have PU : Hid (∀ W, Calls Tryz.prog 125 #[.int .i64 x, .int .i64 k] W fun e w' => ∃ a c, e = .returned (.slice a k c) ∧ w'.ownsRow W.heap.size 5 1 (.slice a k c) k (cellsK .u8 k fun i => x / 256 ^ i % 256) ∧ Below W.heap.size W w') := fun W => put_own x k W x0 x1 k0 k1
  have HO : Hid (OwnB base w v out) := hown
  have HB : Hid (base ≤ w.heap.size ∧ out.length + k ≤ 3000000) := ⟨hbase, hsz⟩
  clear hown x0 x1 k0 k1 hsz hbase
  go_enter Tryz.func102, Tryz.ntmps102
  go_wp2_with (first
    | (go_at_call 125; refine (PU.out _).mono ?_; rintro e w1 ⟨a1, c1, rfl, o1, b1⟩)
    | (at_builtin; refine wpList_ext rfl (.tmp 7) (.tmp 10) rfl base v out rfl (HO.out.later b1) a1 k c1 (digL k x) rfl (digL_len _ _) (dig_src o1) HB.out.2 (Nat.le_trans HB.out.1 b1.size) ?_; intro v2 w2 X2))
  go_ret
  exact ⟨v2, rfl, Ext.after b1 X2⟩
/-- The first one, behind a literal. -/
theorem put_num0 {q cap : Nat} {l : Bs} (hc : ∀ W, Below w.heap.size w W → ∀ b, some (⟨q, 0, none⟩ : Addr) = some b → ∀ j u, (l.map fun x => Value.int .u8 x)[j]? = some u → W.cell? (b.add j) = some u) (hl : l.length = cap) (hl2 : cap ≤ 1000) (x : Int) (k : Nat) (x0 : 0 ≤ x) (x1 : x < 4294967296) (k0 : 1 ≤ k) (k1 : k ≤ 4) :
    Calls Tryz.prog 102 #[.slice (some ⟨q, 0, none⟩) cap cap, .int .i64 x, .int .i64 k] w fun e w' => ∃ v', e = .returned v' ∧ OwnB w.heap.size w' v' (l ++ digL k x) ∧ Below w.heap.size w w' := by
  have PU : Hid (∀ W, Calls Tryz.prog 125 #[.int .i64 x, .int .i64 k] W fun e w' => ∃ a c, e = .returned (.slice a k c) ∧ w'.ownsRow W.heap.size 5 1 (.slice a k c) k (cellsK .u8 k fun i => x / 256 ^ i % 256) ∧ Below W.heap.size W w') := fun W => put_own x k W x0 x1 k0 k1
  have HC : Hid (∀ W, Below w.heap.size w W → ∀ b, some (⟨q, 0, none⟩ : Addr) = some b → ∀ j u, (l.map fun x => Value.int .u8 x)[j]? = some u → W.cell? (b.add j) = some u) := hc
  have HB : Hid ((1 ≤ k ∧ k ≤ 4) ∧ l.length = cap ∧ cap ≤ 1000) := ⟨⟨k0, k1⟩, hl, hl2⟩
  obtain ⟨i0, hi0, hz0, hz1, hz2⟩ := info_parts slB
  clear hc x0 x1 k0 k1 hl hl2
  go_enter Tryz.func102, Tryz.ntmps102
  go_wp2_with (first
    | (go_at_call 125; refine (PU.out _).mono ?_; rintro e w1 ⟨a1, c1, rfl, o1, b1⟩; obtain ⟨p1, rfl⟩ : ∃ p, a1 = some p := by (cases a1 with | none => exact absurd ((dig_src o1).1 rfl).1 (fun e => by have h := congrArg List.length e; rw [digL_len] at h; have := HB.out.1.1; simp at h; omega) | some p => exact ⟨p, rfl⟩))
    | (at_builtin; refine wpList_append_grows _ rfl (.tmp 7) (.tmp 10) 39 rfl 5 i0 _ 1 1 Tryz.underlying39 hi0 hz0 hz1 hz2 rfl (by decide) (some ⟨q, 0, none⟩) cap cap (l.map fun x => .int .u8 x) rfl (fun e => by cases e) (by rw [List.length_map, HB.out.2.1, Nat.mul_one]) (HC.out _ b1) p1 k c1 ((digL k x).map fun x => .int .u8 x) rfl (by rw [List.length_map, digL_len, Nat.mul_one]) ((dig_src o1).2 _ rfl) (by intro u hu; obtain ⟨y, _, rfl⟩ := List.mem_map.mp hu; rfl) (by have := HB.out; omega) (by unfold maxLen; have := HB.out; omega) (by have := HB.out; omega) ?_; intro v3 w3 o3 g3))
  go_ret
  refine ⟨v3, rfl, ?_, Below.grown b1 g3 b1.size (fun q hq => by cases hq)⟩
  refine own_less (base := w1.heap.size) ?_ b1.size
  rw [List.length_append, HB.out.2.1, digL_len, List.map_append]
  exact o3
theorem put_name (hown : OwnB base w v out) (hbase : base ≤ w.heap.size) (s : ByteArray) (hs : namedB s = true) (hsz : out.length + (nameW s).length ≤ 3000000) :
    Calls Tryz.prog 103 #[v, .string s] w (Puts base w v (out ++ nameW s)) := by
  have PU : Hid (∀ W, Calls Tryz.prog 126 #[.string s] W fun e w' => ∃ a c, e = .returned (.slice a (s.size + 1) c) ∧ w'.ownsRow W.heap.size 5 1 (.slice a (s.size + 1) c) (s.size + 1) (cellsK .u8 (s.size + 1) fun i => if i = 0 then (s.size : Int) else byteZ s (i - 1)) ∧ Below W.heap.size W w') := fun W => putname_own s W hs
  have HO : Hid (OwnB base w v out) := hown
  have HN : Hid ((nameW s).length = s.size + 1) := by rw [nameW_len]; unfold Hid; omega
  have HB : Hid (base ≤ w.heap.size ∧ out.length + (s.size + 1) ≤ 3000000 ∧ s.size ≤ 255) := ⟨hbase, by rw [HN.out] at hsz; exact hsz, by have := named_len hs; omega⟩
  clear hown hsz hbase hs
  go_enter Tryz.func103, Tryz.ntmps103
  go_wp2_with (first
    | (go_at_call 126; refine (PU.out _).mono ?_; rintro e w1 ⟨a1, c1, rfl, o1, b1⟩)
    | (at_builtin; refine wpList_ext rfl (.tmp 5) (.tmp 7) rfl base v out rfl (HO.out.later b1) a1 (s.size + 1) c1 (nameW s) rfl HN.out (name_src HB.out.2.2 o1) HB.out.2.1 (Nat.le_trans HB.out.1 b1.size) ?_; intro v2 w2 X2))
  go_ret
  exact ⟨v2, rfl, Ext.after b1 X2⟩
theorem put_word (hown : OwnB base w v out) (hbase : base ≤ w.heap.size) (x : Int) (x0 : 0 ≤ x) (x1 : x < 4294967296) (hsz : out.length + 4 ≤ 3000000) :
    Calls Tryz.prog 105 #[v, .int .u32 x] w (Puts base w v (out ++ digL 4 x)) := by
  have PN : Hid (Calls Tryz.prog 102 #[v, .int .i64 x, .int .i64 (4 : Nat)] w (Puts base w v (out ++ digL 4 x))) := put_num hown hbase x 4 x0 x1 (by omega) (by omega) hsz
  have hw : IntKind.i64.wrap x = x := wrap_small x0 x1
  clear hown hbase hsz x0 x1
  go_enter Tryz.func105, Tryz.ntmps105
  go_wp2_with (go_at_call 102; refine PN.out.mono ?_; rintro e w1 ⟨v1, rfl, X1⟩)
  go_ret
  exact ⟨v1, rfl, X1⟩
theorem flag_any (c : Bool) (w : World) : Calls Tryz.prog 108 #[.bool c] w fun e w' => e = .returned (.int .i64 (fixW c)) ∧ w' = w := by
  cases c
  · go_enter Tryz.func108, Tryz.ntmps108
    go_wp2
    go_ret
    exact ⟨rfl, rfl⟩
  · go_enter Tryz.func108, Tryz.ntmps108
    go_wp2
    go_ret
    exact ⟨rfl, rfl⟩
end
end Go.Proofs.YteakbpcmafdikaaGreatDoor
