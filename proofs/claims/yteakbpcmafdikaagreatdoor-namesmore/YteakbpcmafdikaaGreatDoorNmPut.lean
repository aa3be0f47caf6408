/- What the document's own functions write of numbers and names. What the document's own functions write of relocations. 'append(out, l...)', out one's own; and a local variable beside it. -/
import Derived.Test.YteakbpcmafdikaaGreatDoorNmObj
import Derived.Test.YteakbpcmafdikaaGreatDoorNmOwn
import Derived.Lib.ConvBytes
namespace Go.Proofs.YteakbpcmafdikaaGreatDoor
open Go.ChangeShapes Go.WideShapes Go.ChangeAt Go.RowKit
set_option linter.unusedVariables false
set_option linter.unusedSimpArgs false
theorem digL_get (n : Nat) : ∀ (x : Int) (i : Nat), i < n → gF (digL n x) i = x / 256 ^ i % 256 := by
  induction n with
  | zero => intro x i h; omega
  | succ n ih =>
    intro x i h
    rcases i with _ | i
    · show x % 256 = x / 256 ^ 0 % 256
      rw [Int.pow_zero, Int.ediv_one]
    · have h1 : gF (digL (n + 1) x) (i + 1) = gF (digL n (x / 256)) i := rfl
      rw [h1, ih (x / 256) i (by omega), Int.pow_succ, Int.mul_comm, ← Int.ediv_ediv_of_nonneg (by decide)]
theorem bytes_dig {w : World} {a : Option Addr} {n k : Nat} {x : Int} (h : ∀ i, i < k → ∃ b off, a = some ⟨b, off, none⟩ ∧ w.cell? ⟨b, off + i, none⟩ = some (.int .u8 (x / 256 ^ i % 256))) (hk : k ≠ 0) : Bytes w a k (gF (digL k x)) := by
  obtain ⟨b, off, e, _⟩ := h 0 (by omega)
  refine ⟨gF_byt (digL_byt k x), .inr ⟨b, off, e, fun i hi => ?_⟩⟩
  obtain ⟨b', off', e', hc⟩ := h i hi
  rw [e] at e'
  cases e'
  rw [digL_get k x i hi]; exact hc
/-- The first ones of a row, the row's beginning. -/
theorem slice_first9 (W : World) (a : Option Addr) (n c k : Nat) (hk : k ≤ n) (hc : n ≤ c) : (Instr.slice 39 (.slice a n c) none (some (.int .i64 (k : Int))) none).run Tryz.prog W = .ok (.slice a k c) W := by
  rw [run_slice_h W 39 a n c (by kernel_rfl) .i64 (k : Int) (by omega) (by omega)]
  have hs : (sizeOf (Tryz.prog.elem 39)).run Tryz.prog W = .ok 1 W := by go_simp
  rw [hs]
  simp only [Result.andThen_ok, sliced, Int.toNat_natCast]
  simp
  intro _
  cases a with
  | none => rfl
  | some y => simp [Addr.add]
open Go.ChangeShapes Go.WideShapes Go.ChangeAt Go.RowKit
set_option linter.unusedVariables false
set_option linter.unusedSimpArgs false
/-- A row of bytes of one's own. -/
def OwnB (base : Nat) (w : World) (v : Value) (l : Bs) : Prop := w.ownsRow base 5 1 v l.length (l.map fun x => .int .u8 x)
theorem OwnB.later {base : Nat} {w w' : World} {v : Value} {l : Bs} (h : OwnB base w v l) (hb : Below w.heap.size w w') : OwnB base w' v l := own_below h hb
/-- What is read of it, as append does. -/
def Src (w : World) (sp : Option Addr) (c : Nat) (l : Bs) : Prop := (sp = none → l = [] ∧ c = 0) ∧ ∀ ad, sp = some ad → ∀ j u, (l.map fun x => Value.int .u8 x)[j]? = some u → w.cell? (ad.add j) = some u
theorem src_bytes {w : World} {a : Option Addr} {c : Nat} {l : Bs} {k : Nat} (hl : l.length = k) (h : Head a k c) (hb : Bytes w a k (gF l)) : Src w a c l := by
  subst hl
  refine ⟨fun e => ⟨List.eq_nil_of_length_eq_zero (head_nil h e).1, (head_nil h e).2⟩, ?_⟩
  rw [← cellsK_map]
  exact bytes_cells hb
theorem src_own {w : World} {base : Nat} {a : Option Addr} {c : Nat} {l : Bs} (h : OwnB base w (.slice a l.length c) l) : Src w a c l := by
  rcases id h.2 with ⟨e, h0⟩ | ⟨g, cap', cur, hv, _⟩
  · simp only [Value.slice.injEq] at e
    obtain ⟨rfl, e2, rfl⟩ := e
    refine ⟨fun _ => ⟨List.eq_nil_of_length_eq_zero e2, rfl⟩, fun ad e => by cases e⟩
  · simp only [Value.slice.injEq] at hv
    obtain ⟨rfl, _, rfl⟩ := hv
    exact ⟨(fun e => by cases e), fun ad e j u hu => by cases e; exact h.cells (g := g) rfl j u hu⟩
theorem src_new (w : World) (cs : Array Value) (t : TypeId) (l : Bs) (h : cs.toList = l.map fun x => .int .u8 x) (c : Nat) : Src (w.alloc (.cells cs t)) (some ⟨w.heap.size, 0, none⟩) c l := by
  refine ⟨(fun e => by cases e), fun ad e j u hu => ?_⟩
  cases e
  rw [show (⟨w.heap.size, 0, none⟩ : Addr).add j = ⟨w.heap.size, j, none⟩ from by cases j <;> simp [Addr.add]]
  exact new_cell' w cs t j u (by rw [← Array.getElem?_toList, h]; exact hu)
/-- 'append(out, l...)'. -/
theorem wpList_app9 {W : World} {ops : Array Oper} {rest : List Oper} {op : Oper} {a : Act} {Q : Exit → Act → World → Prop} (hgd : op.guard = none) (s x : Operand)
    (ho : op.op = .call { callee := .builtin .append, args := #[s, x], argTypes := #[39, 39] })
    (base : Nat) (v : Value) (out : Bs) (hs : a.eval s = v) (hown : OwnB base W v out) (sp : Option Addr) (m c : Nat) (l : Bs) (hx : a.eval x = .slice sp m c) (hl : l.length = m) (hsrc : Src W sp c l)
    (h63 : out.length + m ≤ 3000000) (hbase : base ≤ W.heap.size)
    (h : ∀ v' w', OwnB base w' v' (out ++ l) → Below base W w' → W.grownBy w' v.ownBlock → wpList Tryz.prog ops Q rest (a.put op.dst v') w') : wpList Tryz.prog ops Q (op :: rest) a W := by
  obtain ⟨i0, hi0, hz0, hz1, hz2⟩ := info_parts slB
  refine wpList_append_all W hgd s x 39 ho base 5 i0 _ 1 1 Tryz.underlying39 hi0 hz0 hz1 hz2 rfl (by decide) v out.length _ hs hown sp m c (l.map fun x => .int .u8 x) hx (by rw [List.length_map, hl, Nat.mul_one]) (fun e => ⟨by rw [← hl, (hsrc.1 e).1]; rfl, (hsrc.1 e).2⟩) hsrc.2 (by intro u hu; obtain ⟨y, _, rfl⟩ := List.mem_map.mp hu; rfl) (by unfold maxLen; omega) (by omega) hbase ?_
  intro a' c' w' o g
  refine h _ w' ?_ (Below.grown (Below.refl _ _) g hbase (fun q hq => (own_lt hown q hq))) g
  unfold OwnB
  rw [List.length_append, hl, List.map_append]
  exact o
theorem cell_base {base : Nat} {w w' : World} {b o : Nat} {v : Value} (h : w.cell? ⟨b, o, none⟩ = some v) (hb : Below base w w') (hl : b < base) : w'.cell? ⟨b, o, none⟩ = some v := (hb.cell (p := ⟨b, o, none⟩) hl).trans h
theorem take_next {α : Type} {l : List α} {k : Nat} {x : α} (h : l[k]? = some x) : l.take (k + 1) = l.take k ++ [x] := by
  rw [List.take_add_one, h]; rfl
theorem flat_next {α : Type} {wr : α → Bs} {l : List α} {k : Nat} {x : α} (h : l[k]? = some x) : flatW wr (l.take (k + 1)) = flatW wr (l.take k) ++ wr x := by
  rw [take_next h]; simp [flatW]
theorem flat_le {α : Type} {wr : α → Bs} {l : List α} {k : Nat} : (flatW wr (l.take k)).length ≤ (flatW wr l).length := by
  have e : flatW wr l = flatW wr (l.take k) ++ flatW wr (l.drop k) := by
    unfold flatW
    rw [← List.flatMap_append, List.take_append_drop]
  rw [e, List.length_append]; omega
theorem flat_le2 {α : Type} {wr : α → Bs} {l : List α} {k : Nat} {x : α} (h : l[k]? = some x) : (flatW wr (l.take k)).length + (wr x).length ≤ (flatW wr l).length := by
  have := flat_le (wr := wr) (l := l) (k := k + 1)
  rwa [flat_next h, List.length_append] at this
theorem relW_len (r : RelM) : (relW r).length = 8 + r.name.size := by
  unfold relW nameW
  simp only [List.length_append, digL_len, bytesL_len]
  omega
theorem dig1_wrap {x : Int} (h0 : 0 ≤ x) (h1 : x ≤ 255) : #[Value.int .u8 x].toList = (digL 1 x).map fun x => .int .u8 x := by rw [dig1 h0 (by omega)]; rfl
open Go.ChangeShapes Go.WideShapes Go.ChangeAt Go.RowKit
set_option linter.unusedVariables false
set_option linter.unusedSimpArgs false
/-- Bytes written so far, and a local variable X; what lies below base is as it was in W0. -/
structure Wt (base X : Nat) (W0 : World) (cs : List Value) (out : Bs) (v : Value) (W : World) : Prop where
  own : OwnB base W v out
  xa : XAt W X cs
  lt : X < W.heap.size
  ne : ∀ q, v.ownBlock = some q → q ≠ X
  low : Below base W0 W
  bx : base ≤ W0.heap.size
theorem Wt.big {base X : Nat} {W0 : World} {cs : List Value} {out : Bs} {v : Value} {W : World} (h : Wt base X W0 cs out v W) : base ≤ W.heap.size := Nat.le_trans h.bx h.low.size
theorem Wt.later {base X : Nat} {W0 : World} {cs : List Value} {out : Bs} {v : Value} {W W' : World} (h : Wt base X W0 cs out v W) (hb : Below W.heap.size W W') : Wt base X W0 cs out v W' :=
  ⟨h.own.later hb, h.xa.later h.lt hb, Nat.lt_of_lt_of_le h.lt hb.size, h.ne, h.low.trans (hb.mono h.big), h.bx⟩
/-- A new variable. -/
theorem Wt.new {base : Nat} {W0 : World} {out : Bs} {v : Value} {W : World} (own : OwnB base W v out) (low : Below base W0 W) (bx : base ≤ W0.heap.size) (cs : Array Value) (t : TypeId) : Wt base W.heap.size W0 cs.toList out v (W.alloc (.cells cs t)) := by
  have up := keep_alloc8 (Below.refl _ W) (.cells cs t)
  exact ⟨own.later up, XAt.new _ _ _, by simp, fun q hq => by have := (own.lt q hq).2; omega, low.trans (up.mono (Nat.le_trans bx low.size)), bx⟩
theorem wpList_appX {base X : Nat} {W0 : World} {cs : List Value} {out : Bs} {v : Value} {W : World} {ops : Array Oper} {rest : List Oper} {op : Oper} {a : Act} {Q : Exit → Act → World → Prop} (hgd : op.guard = none) (s x : Operand)
    (ho : op.op = .call { callee := .builtin .append, args := #[s, x], argTypes := #[39, 39] })
    (H : Wt base X W0 cs out v W) (hs : a.eval s = v) (sp : Option Addr) (m c : Nat) (l : Bs) (hx : a.eval x = .slice sp m c) (hl : l.length = m) (hsrc : Src W sp c l) (h63 : out.length + m ≤ 3000000)
    (h : ∀ v' w', Wt base X W0 cs (out ++ l) v' w' → wpList Tryz.prog ops Q rest (a.put op.dst v') w') : wpList Tryz.prog ops Q (op :: rest) a W := by
  obtain ⟨i0, hi0, hz0, hz1, hz2⟩ := info_parts slB
  have hbase := H.big
  have hcells : (l.map fun x => Value.int .u8 x).length = m * 1 := by rw [List.length_map, hl, Nat.mul_one]
  have hone : ∀ u ∈ (l.map fun x => Value.int .u8 x), u.oneCell' = true := by intro u hu; obtain ⟨y, _, rfl⟩ := List.mem_map.mp hu; rfl
  have hr : ∃ a' cap' w', (Builtin.append_ #[39, 39] op.type #[v, .slice sp m c]).run Tryz.prog W = .ok (.slice a' (out.length + m) cap') w' ∧ w'.ownsRow base 5 1 (.slice a' (out.length + m) cap') (out.length + m) ((out.map fun x => .int .u8 x) ++ (l.map fun x => .int .u8 x)) ∧ W.grownBy w' v.ownBlock ∧ (∀ q, a' = some q → v.ownBlock = some q.block ∨ q.block = W.heap.size) := by
    cases sp with
    | none =>
      obtain ⟨rfl, rfl⟩ := hsrc.1 rfl
      subst hl
      obtain ⟨a, cap, rfl⟩ := own_form H.own
      exact ⟨a, cap, W, run_append_owned_none (P := Tryz.prog) (w := W) base 39 op.type 5 i0 1 Tryz.underlying39 hi0 _ _ _ H.own, by have h := H.own; unfold OwnB at h; simpa using h, World.grownBy.refl W _, fun q e => .inl (by rw [e]; rfl)⟩
    | some ad =>
      obtain ⟨v', w', hr, h2, h3, _, h5⟩ := run_append_own_at (P := Tryz.prog) W base 39 op.type 5 i0 _ 1 1 Tryz.underlying39 hi0 hz0 hz1 hz2 rfl (by decide) v out.length _ H.own ad m c _ hcells (hsrc.2 ad rfl) hone (by unfold maxLen; omega) (by omega) hbase
      obtain ⟨a, cap, rfl⟩ := own_form h2
      refine ⟨a, cap, w', hr, h2, h3, fun q e => ?_⟩
      subst e
      rcases h5 with h5 | h5
      · exact .inl (by rw [← h5]; rfl)
      · exact .inr (by simpa [Value.ownBlock] using h5)
  obtain ⟨a', cap', w', hr, h2, h3, h4⟩ := hr
  refine wpList_plain hgd fun _ hK => ?_
  unfold Oper.wp execOp
  simp only [ho, resolve, invoke, builtin, Sem.run_bind, Sem.run_pure, Result.andThen_ok, List.map_toArray, List.map_cons, List.map_nil, hs, hx, hr]
  refine hK _ _ (h _ w' ⟨?_, H.xa.keep (h3.block X H.lt fun e => H.ne X e.symm rfl), Nat.lt_of_lt_of_le H.lt h3.size, fun q hq => ?_, H.low.trans (Below.grown (Below.refl _ _) h3 hbase (fun q hq => (own_lt H.own q hq))), H.bx⟩)
  · unfold OwnB
    rw [List.length_append, hl, List.map_append]
    exact h2
  · cases a' with
    | none => cases hq
    | some p =>
      have e : p.block = q := by simpa [Value.ownBlock] using hq
      rcases h4 p rfl with h | h
      · exact H.ne q (by rw [← e]; exact h)
      · have := H.lt; omega
end Go.Proofs.YteakbpcmafdikaaGreatDoor
