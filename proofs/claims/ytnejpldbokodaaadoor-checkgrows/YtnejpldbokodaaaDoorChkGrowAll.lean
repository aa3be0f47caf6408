/- A right function with a word ahead of it. No condition. A word ahead of words; a relocation behind relocations. No condition. -/
import Derived.Test.YtnejpldbokodaaaDoorChkMath
import Derived.Test.YtnejpldbokodaaaDoorObjRt1
import Derived.Laws.OwnMore
namespace Go.Proofs.YtnejpldbokodaaaDoor
open Go.RowKit
set_option linter.unusedVariables false
set_option linter.unusedSimpArgs false
def bumpR (r : RelM) : RelM := ⟨r.at_ + 1, r.kind, r.name, r.add⟩
theorem has_bump (l : List RelM) (k : Nat) : hasB (l.map bumpR) (k + 1) = hasB l k := by
  unfold hasB
  rw [List.any_map]
  congr 1
  funext r
  simp only [Function.comp, bumpR]
  congr 1
  refine propext ⟨fun h => by omega, fun h => by omega⟩
theorem ahead_bump {l : List RelM} {i : Nat} (hi : i ≤ l.length) : aheadZ (l.map bumpR) i = -1 ∧ i = 0 ∨ aheadZ (l.map bumpR) i = aheadZ l i + 1 := by
  cases i with
  | zero => exact .inl ⟨rfl, rfl⟩
  | succ i =>
    right
    have h : l[i]? = some l[i] := List.getElem?_eq_getElem (by omega)
    have h' : (l.map bumpR)[i]? = some (bumpR l[i]) := by rw [List.getElem?_map, h]; rfl
    rw [ahead_succ h, ahead_succ h']
    rfl
theorem fnE_more {xn : ByteArray} {xb : Int} {lc : List Int} {lr : List RelM} (x : Int) (hx : okG x = true) (h20 : gO x ≠ 20) (hI : (kindZ (gO x) = 2 ∨ kindZ (gO x) = 3) → gI x = -1) (h : fnE ⟨xn, xb, lc, lr⟩ = 0) :
    fnE ⟨xn, xb, x :: lc, lr.map bumpR⟩ = 0 := by
  obtain ⟨⟨h0, h0'⟩, h1, ⟨h2, h3⟩, h4, h5⟩ := fnE_right h
  dsimp only at *
  have hlen : 0 < lc.length := List.length_pos_iff.2 h0'
  refine fnE_ok ⟨h0, by simp⟩ (fun y hy => ?_) ⟨fun i r hi hr => ?_, fun k y hk hy h => ?_⟩ (fun k y hk hy => ?_) (fun y hy => ?_)
  · rcases List.mem_cons.1 hy with rfl | hy
    · exact hx
    · exact h1 y hy
  · rw [List.length_map] at hi
    rw [List.getElem?_map] at hr
    have hr' : lr[i]? = some lr[i] := List.getElem?_eq_getElem hi
    rw [hr'] at hr
    simp only [Option.map_some, Option.some.injEq] at hr
    subst hr
    obtain ⟨a1, a2, a3⟩ := h2 i _ hi hr'
    have bd : -1 ≤ aheadZ lr i := by
      rcases ahead_bd (k := i) (fun j r hj hr => h2 j r (by omega) hr) (by omega) with h | h <;> omega
    refine ⟨?_, ?_, ?_⟩
    · simp only [bumpR]
      rcases ahead_bump (l := lr) (i := i) (by omega) with ⟨e, -⟩ | e <;> omega
    · simp only [bumpR, List.length_cons]; omega
    · obtain ⟨p, hp⟩ := Int.eq_ofNat_of_zero_le (a := lr[i].at_) (by omega)
      simp only [bumpR]
      rw [hp] at a3 ⊢
      rw [show ((p : Int) + 1).toNat = p + 1 from by omega, List.getD_cons_succ]
      rw [Int.toNat_natCast] at a3
      exact a3
  · cases k with
    | zero =>
      simp at hy; subst hy
      exact absurd h h20
    | succ k =>
      rw [has_bump]
      exact h3 k y (by simpa using hk) (by simpa using hy) h
  · cases k with
    | zero =>
      simp at hy; subst hy
      intro hK _
      rw [hI hK]
      simp only [List.length_cons]
      omega
    | succ k =>
      intro hK hb
      rw [has_bump] at hb
      have := h4 k y (by simpa using hk) (by simpa using hy) hK hb
      simp only [List.length_cons]
      omega
  · refine h5 y ?_
    rw [← hy]
    simp only [List.length_cons, Nat.add_sub_cancel]
    obtain ⟨n, hn⟩ : ∃ n, lc.length = n + 1 := ⟨lc.length - 1, by omega⟩
    rw [hn, Nat.add_sub_cancel, List.getElem?_cons_succ]
theorem word_nop : okG 402653184 = true ∧ gO 402653184 ≠ 20 ∧ ((kindZ (gO 402653184) = 2 ∨ kindZ (gO 402653184) = 3) → gI 402653184 = -1) := by decide
theorem word_back : okG 251658495 = true ∧ gO 251658495 ≠ 20 ∧ ((kindZ (gO 251658495) = 2 ∨ kindZ (gO 251658495) = 3) → gI 251658495 = -1) := by decide
open Go.ChangeShapes Go.WideShapes Go.ChangeAt Go.RowKit
set_option linter.unusedVariables false
set_option linter.unusedSimpArgs false
theorem infoU10 : (Tryd.prog.info? 34).map (fun i => (i.zero, i.size, i.bytes)) = some (some (.int .u32 0), 1, 4) := by kernel_rfl
theorem addr_add10 (b o j : Nat) : (⟨b, o, none⟩ : Addr).add j = ⟨b, o + j, none⟩ := by cases j <;> simp [Addr.add]
theorem own_later10 {w w1 : World} {base e size n : Nat} {v : Value} {xs : List Value} (h : w.ownsRow base e size v n xs) (hb : Below w.heap.size w w1) : w1.ownsRow base e size v n xs :=
  h.kept (row := none) ⟨hb.os, hb.tape, hb.output, hb.size, fun k hk _ => hb.block k hk⟩ (by cases hv : v.ownBlock <;> simp)
theorem apart_put10 {w w' : World} {g o : Nat} {v : Value} (h : Apart (G1 g) w w') : Apart (G1 g) w (w'.setCell ⟨g, o, none⟩ v) :=
  ⟨h.os, h.tape, h.output, by have := h.size; simp; omega, fun j hj hn => (Below.heap_setCell _ _ _ _ (by simp only [ne_eq]; intro e; exact hn e)).trans (h.block j hj hn)⟩
theorem below_apart10 {w w0 w' : World} {g : Nat} (h : Below w.heap.size w w0) (ha : Apart (G1 g) w0 w') (hg : w.heap.size ≤ g) : Below w.heap.size w w' :=
  ⟨ha.os.trans h.os, ha.tape.trans h.tape, ha.output.trans h.output, Nat.le_trans h.size ha.size, fun k hk => (ha.block k (Nat.lt_of_lt_of_le hk h.size) (by show ¬ k = g; omega)).trans (h.block k hk)⟩
theorem wp_more10 {ops : Array Oper} {rest : List Oper} {o : Oper} {a : Act} {Q : Exit → Act → World → Prop} (hgd : o.guard = none) (s x : Operand)
    (ho : o.op = .call { callee := .builtin .append, args := #[s, x], argTypes := #[30, 30] }) (W : World) (z : Int) (hz0 : 0 ≤ z ∧ z < 4294967296)
    (hs : a.eval s = .slice (some ⟨W.heap.size, 0, none⟩) 1 1) {A : Nat → Prop} {lc : List Int} (ca : Option Addr) (n cc : Nat) (hx : a.eval x = .slice ca n cc) (hn : lc.length = n) (hI : IsWords A W (.slice ca n cc) lc) (hm : n ≤ 5000)
    (h : ∀ a' c' w', IsWords (fun k => W.heap.size ≤ k ∧ k < w'.heap.size) w' (.slice a' (1 + n) c') (z :: lc) → Below W.heap.size W w' → wpList Tryd.prog ops Q rest (a.put o.dst (.slice a' (1 + n) c')) w') :
    wpList Tryd.prog ops Q (o :: rest) a (W.alloc (.cells #[.int .u32 z] 34)) := by
  obtain ⟨i0, hi, hiz, hsz, hby⟩ := info_parts infoU10
  obtain ⟨a1, c1, e1, -, hh, hc⟩ := LstA.open hI.1
  simp only [Value.slice.injEq] at e1
  obtain ⟨rfl, -, rfl⟩ := e1
  rw [hn] at hh hc
  refine wpList_append_all (W.alloc (.cells #[.int .u32 z] 34)) hgd s x 30 ho W.heap.size 34 i0 _ 1 4 Tryd.underlying30 hi hiz hsz hby rfl (by decide) _ 1 [.int .u32 z] hs (World.ownsRow_lit W #[.int .u32 z] 1 (Nat.le_refl _) (by decide) rfl) ca n cc (lc.map fun x => .int .u32 x) hx (by rw [List.length_map, hn, Nat.mul_one]) (fun e => ?_) (fun ad ha j u hu => ?_) (fun u hu => ?_) (by unfold maxLen; omega) (by omega) (by simp) ?_
  · have := hh.2 e; exact ⟨by have := hh.1; omega, this⟩
  · rw [List.getElem?_map] at hu
    cases hj : lc[j]? with
    | none => rw [hj] at hu; cases hu
    | some y =>
      rw [hj] at hu
      simp only [Option.map_some, Option.some.injEq] at hu
      subst hu
      have hjn : j < n := by rw [← hn]; exact (List.getElem?_eq_some_iff.1 hj).1
      obtain ⟨b, off, y', e, -, hy, hcell⟩ := hc j hjn
      rw [hj] at hy
      cases hy
      rw [e] at ha
      simp only [Option.some.injEq] at ha
      subst ha
      rw [addr_add10]
      unfold NumAt at hcell
      rw [Nat.mul_one] at hcell
      exact cell_any hcell (keep_alloc8 (Below.refl _ _) _)
  · obtain ⟨y, -, rfl⟩ := List.mem_map.1 hu
    rfl
  · intro a' c' w' own gr
    have hl : (z :: lc).length = 1 + n := by rw [List.length_cons, hn]; omega
    refine h a' c' w' ?_ ((keep_alloc8 (Below.refl _ _) (.cells #[.int .u32 z] 34)).grown gr (by simp) (fun k hk => by simp [Value.ownBlock] at hk; omega))
    rw [← hl]
    refine own_words (e := 34) ?_ fun y hy => ?_
    · rw [hl]; exact own
    · rcases List.mem_cons.1 hy with rfl | hy
      · exact hz0
      · exact hI.2 y hy
theorem wp_relmore10 {ops : Array Oper} {rest : List Oper} {o : Oper} {a : Act} {Q : Exit → Act → World → Prop} (hgd : o.guard = none) (s x : Operand)
    (ho : o.op = .call { callee := .builtin .append, args := #[s, x], argTypes := #[23, 23] }) (W : World) (base : Nat) (hb : base ≤ W.heap.size) (va : Option Addr) (k vc : Nat) (l : List RelM) (r : RelM)
    (hs : a.eval s = .slice va k vc) (hl : l.length = k) (hown : W.ownsRow base 36 4 (.slice va k vc) k (l.flatMap relC)) (hx : a.eval x = .slice (some ⟨W.heap.size, 0, none⟩) 1 1) (hm : k ≤ 5000)
    (h : ∀ a' c' w', w'.ownsRow base 36 4 (.slice a' (k + 1) c') (k + 1) ((l ++ [r]).flatMap relC) → Below base W w' → wpList Tryd.prog ops Q rest (a.put o.dst (.slice a' (k + 1) c')) w') :
    wpList Tryd.prog ops Q (o :: rest) a (W.alloc (.cells #[.int .i64 r.at_, .int .i64 r.kind, .string r.name, .int .i64 r.add] 36)) := by
  obtain ⟨i0, hi, hiz, hsz, hby⟩ := info_parts infoRel
  refine wpList_append_all (W.alloc (.cells #[.int .i64 r.at_, .int .i64 r.kind, .string r.name, .int .i64 r.add] 36)) hgd s x 23 ho base 36 i0 _ 4 40 Tryd.underlying23 hi hiz hsz hby rfl (by decide) _ k (l.flatMap relC) hs (own_later10 hown (keep_alloc8 (Below.refl _ _) _)) (some ⟨W.heap.size, 0, none⟩) 1 1 (relC r) hx rfl (fun e => by cases e) (fun ad ha j u hu => ?_) (fun u hu => ?_) (by unfold maxLen; omega) (by omega) (by simp; omega) ?_
  · cases ha
    rw [addr_add10, Nat.zero_add]
    exact new_cell' W #[.int .i64 r.at_, .int .i64 r.kind, .string r.name, .int .i64 r.add] 36 j u (by simpa [relC] using hu)
  · simp [relC] at hu
    rcases hu with rfl | rfl | rfl | rfl <;> rfl
  · intro a' c' w' own gr
    refine h a' c' w' ?_ ((((Below.refl base W)).alloc hb (.cells #[.int .i64 r.at_, .int .i64 r.kind, .string r.name, .int .i64 r.add] 36)).grown gr (by simp; omega) (fun q hq => (hown.lt q hq).1))
    rw [List.flatMap_append, List.flatMap_singleton]
    exact own
end Go.Proofs.YtnejpldbokodaaaDoor
