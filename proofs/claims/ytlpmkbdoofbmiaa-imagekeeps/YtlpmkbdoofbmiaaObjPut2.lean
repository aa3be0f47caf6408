/- What the document's own functions write of relocations. -/
import Derived.Test.YtlpmkbdoofbmiaaObjPut
import Derived.Test.YtlpmkbdoofbmiaaObjFew
namespace Go.Proofs.Ytlpmkbdoofbmiaa
open Go.ChangeShapes Go.WideShapes Go.ChangeAt Go.RowKit
set_option linter.unusedVariables false
set_option linter.unusedSimpArgs false
/-- A row of bytes of one's own. -/
def OwnB (base : Nat) (w : World) (v : Value) (l : Bs) : Prop := w.ownsRow base 5 1 v l.length (l.map fun x => .int .u8 x)
theorem OwnB.later {base : Nat} {w w' : World} {v : Value} {l : Bs} (h : OwnB base w v l) (hb : Below w.heap.size w w') : OwnB base w' v l := own_below h hb
/-- What is read of it, as append does. -/
def Src (w : World) (sp : Option Addr) (c : Nat) (l : Bs) : Prop := (sp = none → l = [] ∧ c = 0) ∧ ∀ ad, sp = some ad → ∀ j u, (l.map fun x => Value.int .u8 x)[j]? = some u → w.cell? (ad.add j) = some u
theorem src_bytes {w : World} {a : Option Addr} {c : Nat} {l : Bs} {k : Nat} (hl : l.length = k) (h : Head a k c) (hb : Bytes w a k (gF l)) : Src w a c l := by
  subst hl
  refine ⟨fun e => ⟨List.eq_nil_of_length_eq_zero (head_nil h e).1, (head_nil h e).2⟩, ?_⟩
  rw [← cellsK_map]
  exact bytes_cells hb
theorem src_own {w : World} {base : Nat} {a : Option Addr} {c : Nat} {l : Bs} (h : OwnB base w (.slice a l.length c) l) : Src w a c l := by
  rcases id h.2 with ⟨e, h0⟩ | ⟨g, cap', cur, hv, _⟩
  · simp only [Value.slice.injEq] at e
    obtain ⟨rfl, e2, rfl⟩ := e
    refine ⟨fun _ => ⟨List.eq_nil_of_length_eq_zero e2, rfl⟩, fun ad e => by cases e⟩
  · simp only [Value.slice.injEq] at hv
    obtain ⟨rfl, _, rfl⟩ := hv
    exact ⟨(fun e => by cases e), fun ad e j u hu => by cases e; exact h.cells (g := g) rfl j u hu⟩
theorem src_new (w : World) (cs : Array Value) (t : TypeId) (l : Bs) (h : cs.toList = l.map fun x => .int .u8 x) (c : Nat) : Src (w.alloc (.cells cs t)) (some ⟨w.heap.size, 0, none⟩) c l := by
  refine ⟨(fun e => by cases e), fun ad e j u hu => ?_⟩
  cases e
  rw [show (⟨w.heap.size, 0, none⟩ : Addr).add j = ⟨w.heap.size, j, none⟩ from by cases j <;> simp [Addr.add]]
  exact new_cell' w cs t j u (by rw [← Array.getElem?_toList, h]; exact hu)
/-- 'append(out, l...)'. -/
theorem wpList_app9 {W : World} {ops : Array Oper} {rest : List Oper} {op : Oper} {a : Act} {Q : Exit → Act → World → Prop} (hgd : op.guard = none) (s x : Operand)
    (ho : op.op = .call { callee := .builtin .append, args := #[s, x], argTypes := #[23, 23] })
    (base : Nat) (v : Value) (out : Bs) (hs : a.eval s = v) (hown : OwnB base W v out) (sp : Option Addr) (m c : Nat) (l : Bs) (hx : a.eval x = .slice sp m c) (hl : l.length = m) (hsrc : Src W sp c l)
    (h63 : out.length + m ≤ 3000000) (hbase : base ≤ W.heap.size)
    (h : ∀ v' w', OwnB base w' v' (out ++ l) → Below base W w' → W.grownBy w' v.ownBlock → wpList Try.prog ops Q rest (a.put op.dst v') w') : wpList Try.prog ops Q (op :: rest) a W := by
  obtain ⟨i0, hi0, hz0, hz1, hz2⟩ := info_parts slB
  refine wpList_append_all W hgd s x 23 ho base 5 i0 _ 1 1 Try.underlying23 hi0 hz0 hz1 hz2 rfl (by decide) v out.length _ hs hown sp m c (l.map fun x => .int .u8 x) hx (by rw [List.length_map, hl, Nat.mul_one]) (fun e => ⟨by rw [← hl, (hsrc.1 e).1]; rfl, (hsrc.1 e).2⟩) hsrc.2 (by intro u hu; obtain ⟨y, _, rfl⟩ := List.mem_map.mp hu; rfl) (by unfold maxLen; omega) (by omega) hbase ?_
  intro a' c' w' o g
  refine h _ w' ?_ (Below.grown (Below.refl _ _) g hbase (fun q hq => (own_lt hown q hq))) g
  unfold OwnB
  rw [List.length_append, hl, List.map_append]
  exact o
theorem cell_base {base : Nat} {w w' : World} {b o : Nat} {v : Value} (h : w.cell? ⟨b, o, none⟩ = some v) (hb : Below base w w') (hl : b < base) : w'.cell? ⟨b, o, none⟩ = some v := (hb.cell (p := ⟨b, o, none⟩) hl).trans h
theorem take_next {α : Type} {l : List α} {k : Nat} {x : α} (h : l[k]? = some x) : l.take (k + 1) = l.take k ++ [x] := by
  rw [List.take_add_one, h]; rfl
theorem flat_next {α : Type} {wr : α → Bs} {l : List α} {k : Nat} {x : α} (h : l[k]? = some x) : flatW wr (l.take (k + 1)) = flatW wr (l.take k) ++ wr x := by
  rw [take_next h]; simp [flatW]
theorem flat_le {α : Type} {wr : α → Bs} {l : List α} {k : Nat} : (flatW wr (l.take k)).length ≤ (flatW wr l).length := by
  have e : flatW wr l = flatW wr (l.take k) ++ flatW wr (l.drop k) := by
    unfold flatW
    rw [← List.flatMap_append, List.take_append_drop]
  rw [e, List.length_append]; omega
theorem flat_le2 {α : Type} {wr : α → Bs} {l : List α} {k : Nat} {x : α} (h : l[k]? = some x) : (flatW wr (l.take k)).length + (wr x).length ≤ (flatW wr l).length := by
  have := flat_le (wr := wr) (l := l) (k := k + 1)
  rwa [flat_next h, List.length_append] at this
theorem relW_len (r : RelM) : (relW r).length = 8 + r.name.size := by
  unfold relW nameW
  simp only [List.length_append, digL_len, bytesL_len]
  omega
theorem dig1_wrap {x : Int} (h0 : 0 ≤ x) (h1 : x ≤ 255) : #[Value.int .u8 x].toList = (digL 1 x).map fun x => .int .u8 x := by rw [dig1 h0 (by omega)]; rfl
end Go.Proofs.Ytlpmkbdoofbmiaa
