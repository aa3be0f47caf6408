/- 'append(out, l...)', out one's own; and a local variable beside it. -/
import Derived.Test.YtnejpldbokodaaaDoorObjPutAll
namespace Go.Proofs.YtnejpldbokodaaaDoor
open Go.ChangeShapes Go.WideShapes Go.ChangeAt Go.RowKit
set_option linter.unusedVariables false
set_option linter.unusedSimpArgs false
/-- Bytes written so far, and a local variable X; what lies below base is as it was in W0. -/
structure Wt (base X : Nat) (W0 : World) (cs : List Value) (out : Bs) (v : Value) (W : World) : Prop where
  own : OwnB base W v out
  xa : XAt W X cs
  lt : X < W.heap.size
  ne : ∀ q, v.ownBlock = some q → q ≠ X
  low : Below base W0 W
  bx : base ≤ W0.heap.size
theorem Wt.big {base X : Nat} {W0 : World} {cs : List Value} {out : Bs} {v : Value} {W : World} (h : Wt base X W0 cs out v W) : base ≤ W.heap.size := Nat.le_trans h.bx h.low.size
theorem Wt.later {base X : Nat} {W0 : World} {cs : List Value} {out : Bs} {v : Value} {W W' : World} (h : Wt base X W0 cs out v W) (hb : Below W.heap.size W W') : Wt base X W0 cs out v W' :=
  ⟨h.own.later hb, h.xa.later h.lt hb, Nat.lt_of_lt_of_le h.lt hb.size, h.ne, h.low.trans (hb.mono h.big), h.bx⟩
/-- A new variable. -/
theorem Wt.new {base : Nat} {W0 : World} {out : Bs} {v : Value} {W : World} (own : OwnB base W v out) (low : Below base W0 W) (bx : base ≤ W0.heap.size) (cs : Array Value) (t : TypeId) : Wt base W.heap.size W0 cs.toList out v (W.alloc (.cells cs t)) := by
  have up := keep_alloc8 (Below.refl _ W) (.cells cs t)
  exact ⟨own.later up, XAt.new _ _ _, by simp, fun q hq => by have := (own.lt q hq).2; omega, low.trans (up.mono (Nat.le_trans bx low.size)), bx⟩
theorem wpList_appX {base X : Nat} {W0 : World} {cs : List Value} {out : Bs} {v : Value} {W : World} {ops : Array Oper} {rest : List Oper} {op : Oper} {a : Act} {Q : Exit → Act → World → Prop} (hgd : op.guard = none) (s x : Operand)
    (ho : op.op = .call { callee := .builtin .append, args := #[s, x], argTypes := #[22, 22] })
    (H : Wt base X W0 cs out v W) (hs : a.eval s = v) (sp : Option Addr) (m c : Nat) (l : Bs) (hx : a.eval x = .slice sp m c) (hl : l.length = m) (hsrc : Src W sp c l) (h63 : out.length + m ≤ 3000000)
    (h : ∀ v' w', Wt base X W0 cs (out ++ l) v' w' → wpList Tryd.prog ops Q rest (a.put op.dst v') w') : wpList Tryd.prog ops Q (op :: rest) a W := by
  obtain ⟨i0, hi0, hz0, hz1, hz2⟩ := info_parts slB
  have hbase := H.big
  have hcells : (l.map fun x => Value.int .u8 x).length = m * 1 := by rw [List.length_map, hl, Nat.mul_one]
  have hone : ∀ u ∈ (l.map fun x => Value.int .u8 x), u.oneCell' = true := by intro u hu; obtain ⟨y, _, rfl⟩ := List.mem_map.mp hu; rfl
  have hr : ∃ a' cap' w', (Builtin.append_ #[22, 22] op.type #[v, .slice sp m c]).run Tryd.prog W = .ok (.slice a' (out.length + m) cap') w' ∧ w'.ownsRow base 5 1 (.slice a' (out.length + m) cap') (out.length + m) ((out.map fun x => .int .u8 x) ++ (l.map fun x => .int .u8 x)) ∧ W.grownBy w' v.ownBlock ∧ (∀ q, a' = some q → v.ownBlock = some q.block ∨ q.block = W.heap.size) := by
    cases sp with
    | none =>
      obtain ⟨rfl, rfl⟩ := hsrc.1 rfl
      subst hl
      obtain ⟨a, cap, rfl⟩ := own_form H.own
      exact ⟨a, cap, W, run_append_owned_none (P := Tryd.prog) (w := W) base 22 op.type 5 i0 1 Tryd.underlying22 hi0 _ _ _ H.own, by have h := H.own; unfold OwnB at h; simpa using h, World.grownBy.refl W _, fun q e => .inl (by rw [e]; rfl)⟩
    | some ad =>
      obtain ⟨v', w', hr, h2, h3, _, h5⟩ := run_append_own_at (P := Tryd.prog) W base 22 op.type 5 i0 _ 1 1 Tryd.underlying22 hi0 hz0 hz1 hz2 rfl (by decide) v out.length _ H.own ad m c _ hcells (hsrc.2 ad rfl) hone (by unfold maxLen; omega) (by omega) hbase
      obtain ⟨a, cap, rfl⟩ := own_form h2
      refine ⟨a, cap, w', hr, h2, h3, fun q e => ?_⟩
      subst e
      rcases h5 with h5 | h5
      · exact .inl (by rw [← h5]; rfl)
      · exact .inr (by simpa [Value.ownBlock] using h5)
  obtain ⟨a', cap', w', hr, h2, h3, h4⟩ := hr
  refine wpList_plain hgd fun _ hK => ?_
  unfold Oper.wp execOp
  simp only [ho, resolve, invoke, builtin, Sem.run_bind, Sem.run_pure, Result.andThen_ok, List.map_toArray, List.map_cons, List.map_nil, hs, hx, hr]
  refine hK _ _ (h _ w' ⟨?_, H.xa.keep (h3.block X H.lt fun e => H.ne X e.symm rfl), Nat.lt_of_lt_of_le H.lt h3.size, fun q hq => ?_, H.low.trans (Below.grown (Below.refl _ _) h3 hbase (fun q hq => (own_lt H.own q hq))), H.bx⟩)
  · unfold OwnB
    rw [List.length_append, hl, List.map_append]
    exact h2
  · cases a' with
    | none => cases hq
    | some p =>
      have e : p.block = q := by simpa [Value.ownBlock] using hq
      rcases h4 p rfl with h | h
      · exact H.ne q (by rw [← e]; exact h)
      · have := H.lt; omega
end Go.Proofs.YtnejpldbokodaaaDoor
