/- PlaceMore's walk. -/
import Derived.Test.YtlmijnaimdknnaaPlcMoreW
import Derived.Test.YtlmijnaimdknnaaPlcLaw
import Derived.Test.YtlmijnaimdknnaaPlcSame
import Derived.Test.YtlmijnaimdknnaaPlcMoreM
import Derived.Test.YtlmijnaimdknnaaAppends
import Derived.Test.YtlmijnaimdknnaaObjOwn
import Derived.Deep.RegionHeld3
import Derived.Deep.RegionLaw
import Derived.Deep.CutRange
namespace Go.Proofs.Ytlmijnaimdknnaa
open Go.ChangeShapes Go.WideShapes Go.ChangeAt Go.RowKit
set_option linter.unusedVariables false
set_option linter.unusedSimpArgs false
theorem hmk {P : Prop} (h : P) : Hid P := h
/-! Blocks that stand. -/
theorem blk_top {W : World} {o : Obj} {j : Nat} (h : j = W.heap.size) : (W.alloc o).heap[j]? = some o := by subst h; exact heap_alloc_new W o
theorem blk_alloc {W : World} {o p : Obj} {j : Nat} (h : W.heap[j]? = some p) : (W.alloc o).heap[j]? = some p := by
  have hj := (Array.getElem?_eq_some_iff.1 h).1
  exact ((keep_alloc8 (Below.refl W.heap.size W) o).block j hj).trans h
theorem blk_drew {W : World} {p : Obj} {j : Nat} (h : W.heap[j]? = some p) : W.drew.heap[j]? = some p := h
theorem blk_grown {W W' : World} {p : Obj} {j : Nat} {r : Option Nat} (h : W.grownBy W' r) (hn : r ≠ some j) (hp : W.heap[j]? = some p) : W'.heap[j]? = some p :=
  (h.block j (Array.getElem?_eq_some_iff.1 hp).1 (fun e => hn e.symm)).trans hp
theorem lit_own0 {W : World} {E B : Nat} {t : TypeId} (h : W.heap[E]? = some (.cells #[] t (0, 0))) (hB : B ≤ E) : W.ownsRow B t 5 (.slice (some ⟨E, 0, none⟩) 0 0) 0 [] :=
  ⟨rfl, .inr ⟨E, 0, #[], rfl, hB, h, Nat.le_refl _, Nat.zero_le _, rfl, rfl⟩⟩
theorem blk_xat {W : World} {g : Nat} {t : TypeId} {cs : List Value} (h : W.heap[g]? = some (.cells cs.toArray t (0, 0))) : XAt W g cs :=
  ⟨fun j u hj => by rw [cell_of_row W g j _ t (0, 0) h]; simpa using hj, fun j => frozen_of_row W g j _ t h⟩
theorem lit_cells {W : World} {g : Nat} {t : TypeId} {cs : List Value} (h : W.heap[g]? = some (.cells cs.toArray t (0, 0))) : ∀ ad, (some ⟨g, 0, none⟩ : Option Addr) = some ad → ∀ j u, cs[j]? = some u → W.cell? (ad.add j) = some u := fun ad e j u hu => by
  injection e with e
  subst e
  rw [show (⟨g, 0, none⟩ : Addr).add j = ⟨g, j, none⟩ from by cases j <;> simp [Addr.add]]
  exact (blk_xat h).1 j u hu
theorem below_grownB {w w' : World} {B : Nat} {r : Option Nat} (h : w.grownBy w' r) (hr : ∀ b, r = some b → B ≤ b) (hB : B ≤ w.heap.size) : Below B w w' := ⟨h.os, h.tape, h.output, h.size, fun k hk => h.block k (by omega) (fun e => by have := hr k e.symm; omega)⟩
/-- The data that is put behind all others. -/
def newD (A s : Int) : DatZ := ⟨A, false, s, none, 0, 0, none, 0, 0⟩
/-- Behind it: q has one data more. -/
def MoreS (W4 : World) (qb F D : Nat) (fa : Option Addr) (fc : Nat) (E : Int) (L : List DatZ) (W : World) : Prop :=
  ∃ a c, XAt W qb [.slice fa F fc, .slice a (D + 1) c, .int .i64 E] ∧ IsPds W (.slice a (D + 1) c) L ∧ Below qb W4 W ∧ qb < W.heap.size
/-- Five cells of a variable of one's own are written. -/
theorem set5p {W : World} {X : Nat} {a0 a1 a2 a3 a4 : Value} (h : XAt W X [a0, a1, a2, a3, a4]) (x0 x1 x2 x3 x4 : Value) : XAt (((((W.setCell ⟨X, 0, none⟩ x0).setCell ⟨X, 1, none⟩ x1).setCell ⟨X, 2, none⟩ x2).setCell ⟨X, 3, none⟩ x3).setCell ⟨X, 4, none⟩ x4) X [x0, x1, x2, x3, x4] :=
  ((((h.set 0 (by simp) x0).set 1 (by simp) x1).set 2 (by simp) x2).set 3 (by simp) x3).set 4 (by simp) x4
theorem low5p {B X : Nat} {W0 W : World} (h : Below B W0 W) (hX : B ≤ X) (x0 x1 x2 x3 x4 : Value) : Below B W0 (((((W.setCell ⟨X, 0, none⟩ x0).setCell ⟨X, 1, none⟩ x1).setCell ⟨X, 2, none⟩ x2).setCell ⟨X, 3, none⟩ x3).setCell ⟨X, 4, none⟩ x4) :=
  ((((h.trans (low_set x0 hX)).trans (low_set x1 hX)).trans (low_set x2 hX)).trans (low_set x3 hX)).trans (low_set x4 hX)
theorem blk5p {W : World} {X q : Nat} (hq : q ≠ X) (x0 x1 x2 x3 x4 : Value) : (((((W.setCell ⟨X, 0, none⟩ x0).setCell ⟨X, 1, none⟩ x1).setCell ⟨X, 2, none⟩ x2).setCell ⟨X, 3, none⟩ x3).setCell ⟨X, 4, none⟩ x4).heap[q]? = W.heap[q]? :=
  ((((Below.heap_setCell _ _ _ _ (by simpa using hq)).trans (Below.heap_setCell _ _ _ _ (by simpa using hq))).trans (Below.heap_setCell _ _ _ _ (by simpa using hq))).trans (Below.heap_setCell _ _ _ _ (by simpa using hq))).trans (Below.heap_setCell _ _ _ _ (by simpa using hq))
theorem RowI.keep {base : Nat} {w w' : World} {v : Value} {l : List Int} (h : RowI base w v l) (hs : w.heap.size ≤ w'.heap.size) (hk : ∀ k, base ≤ k → k < w.heap.size → w'.heap[k]? = w.heap[k]?) : RowI base w' v l := by
  rcases h with h | ⟨g, h1, h2, h3, h4, h5⟩
  · exact .inl h
  · exact .inr ⟨g, h1, h2, Nat.lt_of_lt_of_le h3 hs, h4.keep (hk g h2 h3), h5⟩
theorem IsPlan.keep {base : Nat} {w w' : World} {v : Value} {x : PlanZ} (h : IsPlan base w v x) (hs : w.heap.size ≤ w'.heap.size) (hk : ∀ k, base ≤ k → k < w.heap.size → w'.heap[k]? = w.heap[k]?) : IsPlan base w' v x := by
  obtain ⟨vc, vd, e, h1, h2, h3⟩ := h
  exact ⟨vc, vd, e, h1.keep hs hk, h2.keep hs hk, h3⟩
/-- A plan that stands in a variable X, behind the world X0. -/
def PlnS (X0 : World) (X : Nat) (a b : Option Addr) (n c m d : Nat) (x y z : Int) (q : PlanZ) (W : World) : Prop :=
  XAt W X [.slice a n c, .slice b m d, .int .i64 x, .int .i64 y, .int .i64 z] ∧ IsPlan X0.heap.size W (.agg #[.slice a n c, .slice b m d, .int .i64 x, .int .i64 y, .int .i64 z]) q ∧ Below X0.heap.size X0 W ∧ X0.heap.size ≤ X ∧ X < W.heap.size
theorem plns_late {X0 W : World} {B : Nat} {a b : Option Addr} {n c m d : Nat} {x y z : Int} {q : PlanZ} (t : TypeId) (hb : Below X0.heap.size X0 W) (hV : X0.heap.size ≤ B) (h : IsPlan B W (.agg #[.slice a n c, .slice b m d, .int .i64 x, .int .i64 y, .int .i64 z]) q) :
    PlnS X0 W.heap.size a b n c m d x y z q (W.alloc (.cells #[.slice a n c, .slice b m d, .int .i64 x, .int .i64 y, .int .i64 z] t)) :=
  ⟨XAt.new _ _ _, (h.later (keep_alloc8 (Below.refl _ _) _)).lower hV, keep_alloc8 hb _, hb.size, by simp⟩
theorem plns_drew {X0 W : World} {X : Nat} {a b : Option Addr} {n c m d : Nat} {x y z : Int} {q : PlanZ} (h : PlnS X0 X a b n c m d x y z q W) : PlnS X0 X a b n c m d x y z q W.drew :=
  ⟨h.1.later h.2.2.2.2 (Below.refl _ _).drew, h.2.1.later (Below.refl _ _).drew, h.2.2.1.drew, h.2.2.2.1, h.2.2.2.2⟩
theorem plns_early {X0 W : World} {B X : Nat} {t : TypeId} {a b : Option Addr} {n c m d : Nat} {x y z : Int} {q : PlanZ} (hX : W.heap[X]? = some (.cells #[.slice none 0 0, .slice none 0 0, .int .i64 0, .int .i64 0, .int .i64 0] t (0, 0))) (h0 : X0.heap.size ≤ X) (hXV : X < B) (hb : Below X0.heap.size X0 W) (h : IsPlan B W (.agg #[.slice a n c, .slice b m d, .int .i64 x, .int .i64 y, .int .i64 z]) q) :
    PlnS X0 X a b n c m d x y z q (((((W.setCell ⟨X, 0, none⟩ (.slice a n c)).setCell ⟨X, 1, none⟩ (.slice b m d)).setCell ⟨X, 2, none⟩ (.int .i64 x)).setCell ⟨X, 3, none⟩ (.int .i64 y)).setCell ⟨X, 4, none⟩ (.int .i64 z)) := by
  have hl : X < W.heap.size := (Array.getElem?_eq_some_iff.1 hX).1
  refine ⟨set5p (blk_xat (cs := [.slice none 0 0, .slice none 0 0, .int .i64 0, .int .i64 0, .int .i64 0]) hX) _ _ _ _ _, ?_, low5p hb h0 _ _ _ _ _, h0, by simpa using hl⟩
  exact (h.keep (by simp) (fun k h1 _ => blk5p (by omega) _ _ _ _ _)).lower (by omega)
theorem nums_of {W : World} {g F : Nat} (h : XAt W g (nums (iotaZ F))) (hg : g < W.heap.size) (hF : F ≤ 300) : IsNums W (.slice (some ⟨g, 0, none⟩) F F) (iotaZ F) := by
  have e := iota_len F
  exact RowI.isNums (base := 0) (.inr ⟨g, by rw [e], Nat.zero_le _, hg, h, by rw [e]; unfold maxLen; omega⟩)
theorem take_lst {α : Type} {sz : Nat} {el : Nat → Nat → α → Prop} {A : Nat → Prop} {a : Option Addr} {n c : Nat} {l : List α} (h : LstA sz el A (.slice a n c) l) {k : Nat} (hk : k ≤ l.length) : LstA sz el A (.slice a k c) (l.take k) := by
  obtain ⟨a', c', e, ⟨⟨h1, h2⟩, h3⟩, hA, hl⟩ := h
  simp only [Value.slice.injEq] at e
  obtain ⟨rfl, rfl, rfl⟩ := e
  have hlen : (l.take k).length = k := by rw [List.length_take]; omega
  refine ⟨a, c, by rw [hlen], ⟨⟨by rw [hlen]; omega, h2⟩, h3⟩, hA, ?_⟩
  rcases hl with rfl | ⟨b, off, e, hx⟩
  · exact .inl (by simp)
  · refine .inr ⟨b, off, e, fun i x hi => hx i x ?_⟩
    rw [List.getElem?_take] at hi
    split at hi
    · exact hi
    · cases hi
theorem slice_firstI (W : World) (a : Option Addr) (n c k : Nat) (hk : k ≤ n) (hc : n ≤ c) : (Instr.slice 28 (.slice a n c) none (some (.int .i64 (k : Int))) none).run Try.prog W = .ok (.slice a k c) W := by
  rw [run_slice_h W 28 a n c (by kernel_rfl) .i64 (k : Int) (by omega) (by omega)]
  have hs : (sizeOf (Try.prog.elem 28)).run Try.prog W = .ok 1 W := by go_simp
  rw [hs]
  simp only [Result.andThen_ok, sliced, Int.toNat_natCast]
  simp
  intro _
  cases a with
  | none => rfl
  | some y => simp [Addr.add]
theorem blk_below {W W' : World} {p : Obj} {j : Nat} (h : Below W.heap.size W W') (hp : W.heap[j]? = some p) : W'.heap[j]? = some p :=
  (h.block j (Array.getElem?_eq_some_iff.1 hp).1).trans hp
theorem own_loM {w w' : World} {base : Nat} {e : TypeId} {size : Nat} {v : Value} {n : Nat} {xs : List Value} (h : w.ownsRow base e size v n xs) (hk : ∀ k, k < w.heap.size → v.ownBlock = some k → w'.heap[k]? = w.heap[k]?) : w'.ownsRow base e size v n xs := by
  refine ⟨h.1, h.2.imp id fun ⟨g, cap, cur, h1, h2, h3, h4⟩ => ⟨g, cap, cur, h1, h2, ?_, h4⟩⟩
  have hl : g < w.heap.size := by
    rcases Nat.lt_or_ge g w.heap.size with h | h
    · exact h
    · rw [Array.getElem?_eq_none h] at h3; cases h3
  rw [hk g hl (by rw [h1]; rfl)]; exact h3
theorem more_end {W4 w9 : World} {qb F D D' : Nat} {fa da a9 : Option Addr} {fc dc c9 : Nat} {E : Int} {L : List DatZ} (hq : XAt W4 qb [.slice fa F fc, .slice da D' dc, .int .i64 E]) (hl : qb < W4.heap.size) (hb : Below W4.heap.size W4 w9)
    (ho : w9.ownsRow W4.heap.size 32 5 (.slice a9 (D + 1) c9) (D + 1) (L.flatMap dCs)) (hL : ∀ d ∈ L, d.bn ≤ maxLen ∧ d.rn ≤ maxLen) : MoreS W4 qb F D fa fc E L (w9.setCell ⟨qb, 1, none⟩ (.slice a9 (D + 1) c9)) :=
  ⟨a9, c9, (hq.later hl hb).set 1 (by simp) _, pds_own (own_loM ho fun k hk e => Below.heap_setCell _ _ _ _ (by have := (ho.lt k e).1; show k ≠ qb; omega)) hL, (hb.mono (Nat.le_of_lt hl)).trans (low_set _ (Nat.le_refl _)), by have := hb.size; simp; omega⟩
theorem pds_lens {W : World} {v : Value} {l : List DatZ} (h : IsPds W v l) : ∀ d ∈ l, d.bn ≤ maxLen ∧ d.rn ≤ maxLen := fun d hd => by
  obtain ⟨a, c, -, -, -, hl⟩ := h
  rcases hl with rfl | ⟨b, off, -, hx⟩
  · cases hd
  · obtain ⟨i, hi⟩ := List.mem_iff_getElem?.1 hd
    exact (hx i d hi).2.2.2.2.2
theorem flat_snoc (l : List DatZ) (d : DatZ) : (l ++ [d]).flatMap dCs = l.flatMap dCs ++ dCs d := by simp
set_option maxRecDepth 100000 in
set_option maxHeartbeats 8000000 in
theorem more_walk {w : World} {v : Value} {p : ProgZ} (h : IsP w v p) (s1 a1 : Int) (hs0 : 0 ≤ s1) (hs1 : s1 < 256) (ha0 : 0 ≤ a1) (ha1 : a1 < 256) :
    Calls Try.prog 3 #[v, .int .u8 s1, .int .u8 a1] w fun e w' => e = .returned (.bool true) ∧ Below w.heap.size w w' := by
  have AW : Hid (∀ W, Calls Try.prog 4 #[] W fun e w' => e = .returned (.bool true) ∧ Below W.heap.size W w') := fun W => awake12 W
  have MC : Hid (∀ W, Below w.heap.size w W → Calls Try.prog 5 #[v] W fun e w' => OnlyIf e (MayZ p) ∧ Below W.heap.size W w') := fun W hW => may_any (h.later hW)
  have AC : Hid (MayZ p → ∀ W, Below w.heap.size w W → Calls Try.prog 7 #[v] W fun e w' => (∃ g, e = .returned (.slice (some ⟨g, 0, none⟩) p.codes.length p.codes.length) ∧ W.heap.size ≤ g ∧ g < w'.heap.size ∧ XAt w' g (nums (iotaZ p.codes.length))) ∧ Below W.heap.size W w') := fun hm W hW => all_any (h.later hW) hm.1
  have PC : Hid (MayZ p → ∀ W vo o, Below w.heap.size w W → IsNums W vo o → o.length ≤ 400 → Calls Try.prog 6 #[v, vo] W fun e w' => PlanPost W.heap.size (planZ p o) e w' ∧ Below W.heap.size W w') := fun hm W vo o hW ho hl => plan_any (h.later hW) ho hm hl
  have QC : Hid (MayZ p → ∀ W vq vo o d, Below w.heap.size w W → IsP W vq (moreP p d) → (1 ≤ d.align ∧ d.align ≤ 16 ∧ 1 ≤ d.size ∧ d.size ≤ 4096) → IsNums W vo o → o.length ≤ 400 → Calls Try.prog 6 #[vq, vo] W fun e w' => PlanPost W.heap.size (planZ (moreP p d) o) e w' ∧ Below W.heap.size W w') := fun hm W vq vo o d hW hq hd ho hl => plan_anyQ hq ho (more_may hm hd) hl
  have PP : Hid (IsP w v p) := h
  obtain ⟨fa, fc, da, dc, rfl, fx, dx⟩ := h.open
  obtain ⟨F, eF⟩ : ∃ F, p.codes.length = F := ⟨_, rfl⟩
  obtain ⟨D, eD⟩ : ∃ D, p.datas.length = D := ⟨_, rfl⟩
  obtain ⟨E, eE⟩ : ∃ E, p.entry = E := ⟨_, rfl⟩
  have EF : Hid (p.codes.length = F) := eF
  have DE : Hid (p.datas.length = D) := eD
  have EE : Hid (p.entry = E) := eE
  have DNil : Hid (da = none → D = 0 ∧ dc = 0) := fun e => by
    obtain ⟨vf, vd, hv, -, hd⟩ := h
    simp only [Value.agg.injEq, Array.mk.injEq, List.cons.injEq, and_true] at hv
    obtain ⟨-, rfl, -⟩ := hv
    obtain ⟨a', c', hs, ⟨⟨h1, h2⟩, -⟩, -, -⟩ := hd
    simp only [Value.slice.injEq] at hs
    obtain ⟨rfl, -, rfl⟩ := hs
    have := h2 e
    omega
  rw [eF, eD, eE] at MC AC PC
  rw [eF] at fx
  rw [eF, eD, eE]
  have FX : Hid (∀ k, k < F → ∃ b off x, fa = some ⟨b, off, none⟩ ∧ Any8 b ∧ p.codes[k]? = some x ∧ PfAt w b (off + k * 5) x) := fx
  clear h eF eD eE fx dx
  obtain ⟨W0, eW0⟩ : ∃ W0, w.alloc (.cells #[.slice fa F fc, .slice da D dc, .int .i64 E] 25) = W0 := ⟨_, rfl⟩
  have UP : Hid (Below w.heap.size w W0) := by rw [← eW0]; exact keep_alloc8 (Below.refl _ _) _
  have XA : Hid (XAt W0 w.heap.size [.slice fa F fc, .slice da D dc, .int .i64 E]) := by rw [← eW0]; exact XAt.new w _ _
  have ha : Hid (w.heap.size < W0.heap.size) := XA.out.lt (by simp)
  rcases Nat.eq_zero_or_pos F with rfl | hpos
  · go_enter Try.func3, Try.ntmps3
    go_upto_region 1 with fail
    try rw [eW0]
    clear eW0
    go_wp2_with (first
      | (go_at_call 4; have q := hB2; refine (AW.out _).mono ?_; rintro e w3 ⟨rfl, hB3⟩)
      | (go_at_call 4; refine (AW.out _).mono ?_; rintro e w1 ⟨rfl, hB1⟩; have p0 := (XA.out.later ha.out hB1).1 0 _ rfl; have p1 := (XA.out.later ha.out hB1).1 1 _ rfl; have p2 := (XA.out.later ha.out hB1).1 2 _ rfl)
      | (go_at_call 5; refine (MC.out _ (bnext UP.out hB1)).mono ?_; rintro e w2 ⟨⟨b, rfl, hb⟩, hB2⟩; cases b; all_goals (have p0 := ((XA.out.later ha.out hB1).later (Nat.lt_of_lt_of_le ha.out hB1.size) hB2).1 0 _ rfl)))
    all_goals
      go_ret
      exact ⟨rfl, bnext UP.out (bnext hB1 (bnext hB2 hB3))⟩
  · have hF0 : ((F : Int) == 0) = false := by simp; omega
    have hF1 : 1 ≤ (F : Int) := by omega
    go_enter Try.func3, Try.ntmps3
    go_upto_region 1 with fail
    try rw [eW0]
    clear eW0
    go_upto_region 3 with (first
      | (go_at_call 4; have q := hB2; refine (AW.out _).mono ?_; rintro e w3 ⟨rfl, hB3⟩)
      | (go_at_call 4; refine (AW.out _).mono ?_; rintro e w1 ⟨rfl, hB1⟩; have p0 := (XA.out.later ha.out hB1).1 0 _ rfl; have p1 := (XA.out.later ha.out hB1).1 1 _ rfl; have p2 := (XA.out.later ha.out hB1).1 2 _ rfl)
      | (go_at_call 5; refine (MC.out _ (bnext UP.out hB1)).mono ?_; rintro e w2 ⟨⟨b, rfl, hb⟩, hB2⟩; cases b; all_goals (have p0 := ((XA.out.later ha.out hB1).later (Nat.lt_of_lt_of_le ha.out hB1.size) hB2).1 0 _ rfl)))
    · go_ret
      exact ⟨rfl, bnext UP.out (bnext hB1 (bnext hB2 hB3))⟩
    have hm : MayZ p := hb trivial
    have HM : Hid (MayZ p) := hm
    have hF3 : (F : Int) ≤ 300 := by have := hm.1; have := EF.out; omega
    have AC' : Hid (∀ W, Below w.heap.size w W → Calls Try.prog 7 #[.agg #[.slice fa F fc, .slice da D dc, .int .i64 E]] W fun e w' => (∃ g, e = .returned (.slice (some ⟨g, 0, none⟩) F F) ∧ W.heap.size ≤ g ∧ g < w'.heap.size ∧ XAt w' g (nums (iotaZ F))) ∧ Below W.heap.size W w') := AC.out hm
    have PC' : Hid (∀ W vo o, Below w.heap.size w W → IsNums W vo o → o.length ≤ 400 → Calls Try.prog 6 #[.agg #[.slice fa F fc, .slice da D dc, .int .i64 E], vo] W fun e w' => PlanPost W.heap.size (planZ p o) e w' ∧ Below W.heap.size W w') := PC.out hm
    have B2 : Hid (Below w.heap.size w w2) := bnext UP.out (bnext hB1 hB2)
    have P2 : Hid (XAt w2 w.heap.size [.slice fa F fc, .slice da D dc, .int .i64 E]) := (XA.out.later ha.out hB1).later (Nat.lt_of_lt_of_le ha.out hB1.size) hB2
    have L2 : Hid (w.heap.size < w2.heap.size) := by have h1 := ha.out; have h2 := hB1.size; have h3 := hB2.size; show _ < _; omega
    clear hb AC PC MC AW UP XA hB1 hB2 ha p0 p1 p2
    have p0 := P2.out.1 0 _ rfl
    have p1 := P2.out.1 1 _ rfl
    have p2 := P2.out.1 2 _ rfl
    have DS : Hid (∀ W, Below w.heap.size w W → ∀ ad, da = some ad → ∀ j u, (p.datas.flatMap dCs)[j]? = some u → W.cell? (ad.add j) = some u) := fun W hW => by
      obtain ⟨vf, vd, hv, hf, hd⟩ := PP.out
      simp only [Value.agg.injEq, Array.mk.injEq, List.cons.injEq, and_true] at hv
      obtain ⟨rfl, rfl, -⟩ := hv
      exact pds_src (hd.later hW)
    go_upto_region 4 with fail
    obtain ⟨i0, hi, hz0, hz1, hz2⟩ := info_parts pdI
    obtain ⟨W4, eW4⟩ : ∃ W4, w2.alloc (.cells #[.slice fa F fc, .slice da D dc, .int .i64 E] 25) = W4 := ⟨_, rfl⟩
    have B4 : Hid (Below w.heap.size w W4) := by rw [← eW4]; exact keep_alloc8 B2.out _
    have Q4 : Hid (XAt W4 w2.heap.size [.slice fa F fc, .slice da D dc, .int .i64 E]) := by rw [← eW4]; exact XAt.new w2 _ _
    have P4 : Hid (XAt W4 w.heap.size [.slice fa F fc, .slice da D dc, .int .i64 E]) := by rw [← eW4]; exact P2.out.later L2.out (keep_alloc8 (Below.refl _ _) _)
    have L4 : w2.heap.size < W4.heap.size := Q4.out.lt (by simp)
    have M4 : w.heap.size < W4.heap.size := Nat.lt_trans L2.out L4
    rw [eW4]
    clear eW4 p0 p1 p2
    have p0 := P4.out.1 0 _ rfl
    have p1 := P4.out.1 1 _ rfl
    have p2 := P4.out.1 2 _ rfl
    have q0 := Q4.out.1 0 _ rfl
    have q1 := Q4.out.1 1 _ rfl
    have q2 := Q4.out.1 2 _ rfl
    have DN : Hid (da = none → D = 0 ∧ dc = 0) := DNil.out
    have hD3 : D ≤ 300 := by have := hm.2.1; have := DE.out; omega
    obtain ⟨k, hk, hk5⟩ : ∃ k : Nat, a1.tmod 5 = (k : Int) ∧ k < 5 := ⟨(a1.tmod 5).toNat, by have := Int.tmod_nonneg 5 ha0; omega, by have := Int.tmod_nonneg 5 ha0; have := Int.tmod_lt_of_pos a1 (show (0 : Int) < 5 by decide); omega⟩
    obtain ⟨A, hA, hA1, hA2⟩ : ∃ A : Int, ([.int .i64 1, .int .i64 2, .int .i64 4, .int .i64 8, .int .i64 16] : List Value)[k]'(by simpa using hk5) = .int .i64 A ∧ 1 ≤ A ∧ A ≤ 16 := by
      match k, hk5 with
      | 0, _ => exact ⟨1, rfl, by decide, by decide⟩
      | 1, _ => exact ⟨2, rfl, by decide, by decide⟩
      | 2, _ => exact ⟨4, rfl, by decide, by decide⟩
      | 3, _ => exact ⟨8, rfl, by decide, by decide⟩
      | 4, _ => exact ⟨16, rfl, by decide, by decide⟩
    have hAq : ([.int .i64 1, .int .i64 2, .int .i64 4, .int .i64 8, .int .i64 16] : List Value)[k]? = some (.int .i64 A) := (List.getElem?_eq_getElem (by simpa using hk5)).trans (congrArg some hA)
    have hk5i : (k : Int) < 5 := by omega
    have hw1 : IntKind.i64.wrap s1 = s1 := IntWalk.i64_in _ (by omega)
    have hw2 : IntKind.i64.wrap (1 + s1) = 1 + s1 := IntWalk.i64_in _ (by omega)
    try simp only [hk, hw1, hw2]
    have x1 := p1
    have DR : ∀ (W : World) (a : Addr) (v : Value), W.cell? a = some v → W.drew.cell? a = some v := fun W a v h => h
    have AL : ∀ (W : World) (o : Obj) (a : Addr) (v : Value), W.cell? a = some v → (W.alloc o).cell? a = some v := fun W o a v h => cell_any h (keep_alloc8 (Below.refl _ _) _)
    have hqp : w2.heap.size ≠ w.heap.size := by have := L2.out; omega
    have SE : ∀ (W : World) (u v : Value), W.cell? ⟨w.heap.size, 1, none⟩ = some v → (W.setCell ⟨w2.heap.size, 1, none⟩ u).cell? ⟨w.heap.size, 1, none⟩ = some v := fun W u v h => (World.cell?_setCell_other _ _ _ _ (fun e => hqp (congrArg Addr.block e))).trans h
    have A1 : ∀ o, (W4.alloc o).cell? ⟨w.heap.size, 1, none⟩ = some (.slice da D dc) := fun o => AL _ _ _ _ x1
    have A2 : ∀ o o', ((W4.alloc o).alloc o').cell? ⟨w.heap.size, 1, none⟩ = some (.slice da D dc) := fun o o' => AL _ _ _ _ (A1 o)
    have A3 : ∀ o o' o'', (((W4.alloc o).alloc o').alloc o'').cell? ⟨w.heap.size, 1, none⟩ = some (.slice da D dc) := fun o o' o'' => AL _ _ _ _ (A2 o o')
    clear p0 p1 p2 q0 q1 q2 AL
    have HL9 : Hid (∀ d ∈ p.datas ++ [newD A (1 + s1)], d.bn ≤ maxLen ∧ d.rn ≤ maxLen) := by
      obtain ⟨vf, vd, hv, -, hd⟩ := PP.out
      intro d hm
      rcases List.mem_append.mp hm with hm | hm
      · exact pds_lens hd d hm
      · rw [List.mem_singleton] at hm
        subst hm
        exact ⟨Nat.zero_le _, Nat.zero_le _⟩
    go_cut [] from 28 to 43 (fun wx => MoreS W4 w2.heap.size F D fa fc E (p.datas ++ [newD A (1 + s1)]) wx)
    case first =>
      go_region_law (first | (refine step_append_all _ rfl (.tmp 31) (.tmp 41) 23 rfl W4.heap.size 32 i0 _ 5 72 Try.underlying23 hi hz0 hz1 hz2 rfl (by decide) (.slice a8 D c8) D (p.datas.flatMap dCs) (by go_simp) (own_below own8 (by (repeat (with_reducible first | assumption | exact Below.refl _ _ | refine keep_drew8 ?_ | refine keep_alloc8 ?_ _)); (first | done | fail))) (some ⟨W4.heap.size, 0, none⟩) 1 1 (dCs (newD A (1 + s1))) (by go_simp) (by rfl) (fun e => by cases e) (lit_cells (t := 32) (cs := [.int .i64 A, .bool false, .int .i64 (1 + s1), .slice none 0 0, .slice none 0 0]) (by (repeat (with_reducible first | assumption | exact blk_top (by simp; first | done | fail) | refine blk_drew ?_ | refine blk_alloc ?_)); (first | done | fail))) (by intro u hu; simp only [dCs, newD, List.mem_cons, List.not_mem_nil, or_false] at hu; rcases hu with rfl | rfl | rfl | rfl | rfl <;> rfl) (by unfold maxLen; omega) (by omega) (Below.size (by (repeat (with_reducible first | assumption | exact Below.refl _ _ | refine keep_drew8 ?_ | refine keep_alloc8 ?_ _)); (first | done | fail))) ?_; intro a9 c9 w9 own9 gr9; have HB9 : Below W4.heap.size W4 w9 := Below.trans (by (repeat (with_reducible first | assumption | exact Below.refl _ _ | refine keep_drew8 ?_ | refine keep_alloc8 ?_ _)); (first | done | fail)) (below_grownB gr9 (fun b e => (own8.lt b e).1) (Below.size (by (repeat (with_reducible first | assumption | exact Below.refl _ _ | refine keep_drew8 ?_ | refine keep_alloc8 ?_ _)); (first | done | fail)))); have s9 := HB9.size; have z1 := cell_any x1 HB9; have r1 := (Q4.out.later L4 HB9).1 1 _ rfl; have r1f := (Q4.out.later L4 HB9).2 1) | (refine step_append_all _ rfl (.tmp 31) (.tmp 41) 23 rfl W4.heap.size 32 i0 _ 5 72 Try.underlying23 hi hz0 hz1 hz2 rfl (by decide) (.slice a8 D c8) D (p.datas.flatMap dCs) (by go_simp) (own_below own8 (by (repeat (with_reducible first | assumption | exact Below.refl _ _ | refine keep_drew8 ?_ | refine keep_alloc8 ?_ _)); (first | done | fail))) (some ⟨(W4.heap.size + 1), 0, none⟩) 1 1 (dCs (newD A (1 + s1))) (by go_simp) (by rfl) (fun e => by cases e) (lit_cells (t := 32) (cs := [.int .i64 A, .bool false, .int .i64 (1 + s1), .slice none 0 0, .slice none 0 0]) (by (repeat (with_reducible first | assumption | exact blk_top (by simp; first | done | fail) | refine blk_drew ?_ | refine blk_alloc ?_)); (first | done | fail))) (by intro u hu; simp only [dCs, newD, List.mem_cons, List.not_mem_nil, or_false] at hu; rcases hu with rfl | rfl | rfl | rfl | rfl <;> rfl) (by unfold maxLen; omega) (by omega) (Below.size (by (repeat (with_reducible first | assumption | exact Below.refl _ _ | refine keep_drew8 ?_ | refine keep_alloc8 ?_ _)); (first | done | fail))) ?_; intro a9 c9 w9 own9 gr9; have HB9 : Below W4.heap.size W4 w9 := Below.trans (by (repeat (with_reducible first | assumption | exact Below.refl _ _ | refine keep_drew8 ?_ | refine keep_alloc8 ?_ _)); (first | done | fail)) (below_grownB gr9 (fun b e => (own8.lt b e).1) (Below.size (by (repeat (with_reducible first | assumption | exact Below.refl _ _ | refine keep_drew8 ?_ | refine keep_alloc8 ?_ _)); (first | done | fail)))); have s9 := HB9.size; have z1 := cell_any x1 HB9; have r1 := (Q4.out.later L4 HB9).1 1 _ rfl; have r1f := (Q4.out.later L4 HB9).2 1) | (refine step_append_all _ rfl (.tmp 31) (.tmp 41) 23 rfl W4.heap.size 32 i0 _ 5 72 Try.underlying23 hi hz0 hz1 hz2 rfl (by decide) (.slice a8 D c8) D (p.datas.flatMap dCs) (by go_simp) (own_below own8 (by (repeat (with_reducible first | assumption | exact Below.refl _ _ | refine keep_drew8 ?_ | refine keep_alloc8 ?_ _)); (first | done | fail))) (some ⟨(W4.heap.size + 1 + 1), 0, none⟩) 1 1 (dCs (newD A (1 + s1))) (by go_simp) (by rfl) (fun e => by cases e) (lit_cells (t := 32) (cs := [.int .i64 A, .bool false, .int .i64 (1 + s1), .slice none 0 0, .slice none 0 0]) (by (repeat (with_reducible first | assumption | exact blk_top (by simp; first | done | fail) | refine blk_drew ?_ | refine blk_alloc ?_)); (first | done | fail))) (by intro u hu; simp only [dCs, newD, List.mem_cons, List.not_mem_nil, or_false] at hu; rcases hu with rfl | rfl | rfl | rfl | rfl <;> rfl) (by unfold maxLen; omega) (by omega) (Below.size (by (repeat (with_reducible first | assumption | exact Below.refl _ _ | refine keep_drew8 ?_ | refine keep_alloc8 ?_ _)); (first | done | fail))) ?_; intro a9 c9 w9 own9 gr9; have HB9 : Below W4.heap.size W4 w9 := Below.trans (by (repeat (with_reducible first | assumption | exact Below.refl _ _ | refine keep_drew8 ?_ | refine keep_alloc8 ?_ _)); (first | done | fail)) (below_grownB gr9 (fun b e => (own8.lt b e).1) (Below.size (by (repeat (with_reducible first | assumption | exact Below.refl _ _ | refine keep_drew8 ?_ | refine keep_alloc8 ?_ _)); (first | done | fail)))); have s9 := HB9.size; have z1 := cell_any x1 HB9; have r1 := (Q4.out.later L4 HB9).1 1 _ rfl; have r1f := (Q4.out.later L4 HB9).2 1) | (refine step_append_all _ rfl (.tmp 31) (.tmp 41) 23 rfl W4.heap.size 32 i0 _ 5 72 Try.underlying23 hi hz0 hz1 hz2 rfl (by decide) (.slice a8 D c8) D (p.datas.flatMap dCs) (by go_simp) (own_below own8 (by (repeat (with_reducible first | assumption | exact Below.refl _ _ | refine keep_drew8 ?_ | refine keep_alloc8 ?_ _)); (first | done | fail))) (some ⟨w8.heap.size, 0, none⟩) 1 1 (dCs (newD A (1 + s1))) (by go_simp) (by rfl) (fun e => by cases e) (lit_cells (t := 32) (cs := [.int .i64 A, .bool false, .int .i64 (1 + s1), .slice none 0 0, .slice none 0 0]) (by (repeat (with_reducible first | assumption | exact blk_top (by simp; first | done | fail) | refine blk_drew ?_ | refine blk_alloc ?_)); (first | done | fail))) (by intro u hu; simp only [dCs, newD, List.mem_cons, List.not_mem_nil, or_false] at hu; rcases hu with rfl | rfl | rfl | rfl | rfl <;> rfl) (by unfold maxLen; omega) (by omega) (Below.size (by (repeat (with_reducible first | assumption | exact Below.refl _ _ | refine keep_drew8 ?_ | refine keep_alloc8 ?_ _)); (first | done | fail))) ?_; intro a9 c9 w9 own9 gr9; have HB9 : Below W4.heap.size W4 w9 := Below.trans (by (repeat (with_reducible first | assumption | exact Below.refl _ _ | refine keep_drew8 ?_ | refine keep_alloc8 ?_ _)); (first | done | fail)) (below_grownB gr9 (fun b e => (own8.lt b e).1) (Below.size (by (repeat (with_reducible first | assumption | exact Below.refl _ _ | refine keep_drew8 ?_ | refine keep_alloc8 ?_ _)); (first | done | fail)))); have s9 := HB9.size; have z1 := cell_any x1 HB9; have r1 := (Q4.out.later L4 HB9).1 1 _ rfl; have r1f := (Q4.out.later L4 HB9).2 1) | (refine step_append_all _ rfl (.tmp 31) (.tmp 41) 23 rfl W4.heap.size 32 i0 _ 5 72 Try.underlying23 hi hz0 hz1 hz2 rfl (by decide) (.slice a8 D c8) D (p.datas.flatMap dCs) (by go_simp) (own_below own8 (by (repeat (with_reducible first | assumption | exact Below.refl _ _ | refine keep_drew8 ?_ | refine keep_alloc8 ?_ _)); (first | done | fail))) (some ⟨(w8.heap.size + 1), 0, none⟩) 1 1 (dCs (newD A (1 + s1))) (by go_simp) (by rfl) (fun e => by cases e) (lit_cells (t := 32) (cs := [.int .i64 A, .bool false, .int .i64 (1 + s1), .slice none 0 0, .slice none 0 0]) (by (repeat (with_reducible first | assumption | exact blk_top (by simp; first | done | fail) | refine blk_drew ?_ | refine blk_alloc ?_)); (first | done | fail))) (by intro u hu; simp only [dCs, newD, List.mem_cons, List.not_mem_nil, or_false] at hu; rcases hu with rfl | rfl | rfl | rfl | rfl <;> rfl) (by unfold maxLen; omega) (by omega) (Below.size (by (repeat (with_reducible first | assumption | exact Below.refl _ _ | refine keep_drew8 ?_ | refine keep_alloc8 ?_ _)); (first | done | fail))) ?_; intro a9 c9 w9 own9 gr9; have HB9 : Below W4.heap.size W4 w9 := Below.trans (by (repeat (with_reducible first | assumption | exact Below.refl _ _ | refine keep_drew8 ?_ | refine keep_alloc8 ?_ _)); (first | done | fail)) (below_grownB gr9 (fun b e => (own8.lt b e).1) (Below.size (by (repeat (with_reducible first | assumption | exact Below.refl _ _ | refine keep_drew8 ?_ | refine keep_alloc8 ?_ _)); (first | done | fail)))); have s9 := HB9.size; have z1 := cell_any x1 HB9; have r1 := (Q4.out.later L4 HB9).1 1 _ rfl; have r1f := (Q4.out.later L4 HB9).2 1) | (refine step_append_all _ rfl (.tmp 28) (.tmp 30) 23 rfl W4.heap.size 32 i0 _ 5 72 Try.underlying23 hi hz0 hz1 hz2 rfl (by decide) (.slice (some ⟨W4.heap.size, 0, none⟩) 0 0) 0 [] (by go_simp) (lit_own0 (by (repeat (with_reducible first | assumption | exact blk_top (by simp; first | done | fail) | refine blk_drew ?_ | refine blk_alloc ?_)); (first | done | fail)) (by omega)) da D dc (p.datas.flatMap dCs) (by go_simp) (by rw [flat_len dCs_len, DE.out]) DN.out (DS.out _ (bnext B4.out (by (repeat (with_reducible first | assumption | exact Below.refl _ _ | refine keep_drew8 ?_ | refine keep_alloc8 ?_ _)); (first | done | fail)))) (dCs_one _) (by unfold maxLen; omega) (by omega) (Below.size (by (repeat (with_reducible first | assumption | exact Below.refl _ _ | refine keep_drew8 ?_ | refine keep_alloc8 ?_ _)); (first | done | fail))) ?_; intro a8 c8 w8 own8 gr8; rw [Nat.zero_add, List.nil_append] at own8; rw [Nat.zero_add]; have HB8 : Below W4.heap.size W4 w8 := Below.trans (by (repeat (with_reducible first | assumption | exact Below.refl _ _ | refine keep_drew8 ?_ | refine keep_alloc8 ?_ _)); (first | done | fail)) (below_grownB gr8 (fun b e => by have h : W4.heap.size = b := Option.some.inj e; omega) (Below.size (by (repeat (with_reducible first | assumption | exact Below.refl _ _ | refine keep_drew8 ?_ | refine keep_alloc8 ?_ _)); (first | done | fail)))); (first | (have HG8 : w8.heap[(W4.heap.size + 1)]? = some (.cells #[.int .i64 A, .bool false, .int .i64 (1 + s1), .slice none 0 0, .slice none 0 0] 32 (0, 0)) := blk_grown gr8 (fun e => by have h : W4.heap.size = (W4.heap.size + 1) := Option.some.inj e; omega) (by (repeat (with_reducible first | assumption | exact blk_top (by simp; first | done | fail) | refine blk_drew ?_ | refine blk_alloc ?_)); (first | done | fail))) | (have HG8 : w8.heap[(W4.heap.size + 1 + 1)]? = some (.cells #[.int .i64 A, .bool false, .int .i64 (1 + s1), .slice none 0 0, .slice none 0 0] 32 (0, 0)) := blk_grown gr8 (fun e => by have h : W4.heap.size = (W4.heap.size + 1 + 1) := Option.some.inj e; omega) (by (repeat (with_reducible first | assumption | exact blk_top (by simp; first | done | fail) | refine blk_drew ?_ | refine blk_alloc ?_)); (first | done | fail))) | skip); (first | (have HA8 : w8.heap[(W4.heap.size + 1)]? = some (.cells #[.int .i64 1, .int .i64 2, .int .i64 4, .int .i64 8, .int .i64 16] 3 (0, 0)) := blk_grown gr8 (fun e => by have h : W4.heap.size = (W4.heap.size + 1) := Option.some.inj e; omega) (by (repeat (with_reducible first | assumption | exact blk_top (by simp; first | done | fail) | refine blk_drew ?_ | refine blk_alloc ?_)); (first | done | fail)); have l8 := (blk_xat (cs := [.int .i64 1, .int .i64 2, .int .i64 4, .int .i64 8, .int .i64 16]) HA8).1 k _ hAq) | (have HA8 : w8.heap[(W4.heap.size + 1 + 1)]? = some (.cells #[.int .i64 1, .int .i64 2, .int .i64 4, .int .i64 8, .int .i64 16] 3 (0, 0)) := blk_grown gr8 (fun e => by have h : W4.heap.size = (W4.heap.size + 1 + 1) := Option.some.inj e; omega) (by (repeat (with_reducible first | assumption | exact blk_top (by simp; first | done | fail) | refine blk_drew ?_ | refine blk_alloc ?_)); (first | done | fail)); have l8 := (blk_xat (cs := [.int .i64 1, .int .i64 2, .int .i64 4, .int .i64 8, .int .i64 16]) HA8).1 k _ hAq) | skip); have s8 := HB8.size; have y1 := cell_any x1 HB8) | (refine step_append_all _ rfl (.tmp 28) (.tmp 30) 23 rfl W4.heap.size 32 i0 _ 5 72 Try.underlying23 hi hz0 hz1 hz2 rfl (by decide) (.slice (some ⟨(W4.heap.size + 1), 0, none⟩) 0 0) 0 [] (by go_simp) (lit_own0 (by (repeat (with_reducible first | assumption | exact blk_top (by simp; first | done | fail) | refine blk_drew ?_ | refine blk_alloc ?_)); (first | done | fail)) (by omega)) da D dc (p.datas.flatMap dCs) (by go_simp) (by rw [flat_len dCs_len, DE.out]) DN.out (DS.out _ (bnext B4.out (by (repeat (with_reducible first | assumption | exact Below.refl _ _ | refine keep_drew8 ?_ | refine keep_alloc8 ?_ _)); (first | done | fail)))) (dCs_one _) (by unfold maxLen; omega) (by omega) (Below.size (by (repeat (with_reducible first | assumption | exact Below.refl _ _ | refine keep_drew8 ?_ | refine keep_alloc8 ?_ _)); (first | done | fail))) ?_; intro a8 c8 w8 own8 gr8; rw [Nat.zero_add, List.nil_append] at own8; rw [Nat.zero_add]; have HB8 : Below W4.heap.size W4 w8 := Below.trans (by (repeat (with_reducible first | assumption | exact Below.refl _ _ | refine keep_drew8 ?_ | refine keep_alloc8 ?_ _)); (first | done | fail)) (below_grownB gr8 (fun b e => by have h : (W4.heap.size + 1) = b := Option.some.inj e; omega) (Below.size (by (repeat (with_reducible first | assumption | exact Below.refl _ _ | refine keep_drew8 ?_ | refine keep_alloc8 ?_ _)); (first | done | fail)))); (first | (have HG8 : w8.heap[W4.heap.size]? = some (.cells #[.int .i64 A, .bool false, .int .i64 (1 + s1), .slice none 0 0, .slice none 0 0] 32 (0, 0)) := blk_grown gr8 (fun e => by have h : (W4.heap.size + 1) = W4.heap.size := Option.some.inj e; omega) (by (repeat (with_reducible first | assumption | exact blk_top (by simp; first | done | fail) | refine blk_drew ?_ | refine blk_alloc ?_)); (first | done | fail))) | (have HG8 : w8.heap[(W4.heap.size + 1 + 1)]? = some (.cells #[.int .i64 A, .bool false, .int .i64 (1 + s1), .slice none 0 0, .slice none 0 0] 32 (0, 0)) := blk_grown gr8 (fun e => by have h : (W4.heap.size + 1) = (W4.heap.size + 1 + 1) := Option.some.inj e; omega) (by (repeat (with_reducible first | assumption | exact blk_top (by simp; first | done | fail) | refine blk_drew ?_ | refine blk_alloc ?_)); (first | done | fail))) | skip); (first | (have HA8 : w8.heap[W4.heap.size]? = some (.cells #[.int .i64 1, .int .i64 2, .int .i64 4, .int .i64 8, .int .i64 16] 3 (0, 0)) := blk_grown gr8 (fun e => by have h : (W4.heap.size + 1) = W4.heap.size := Option.some.inj e; omega) (by (repeat (with_reducible first | assumption | exact blk_top (by simp; first | done | fail) | refine blk_drew ?_ | refine blk_alloc ?_)); (first | done | fail)); have l8 := (blk_xat (cs := [.int .i64 1, .int .i64 2, .int .i64 4, .int .i64 8, .int .i64 16]) HA8).1 k _ hAq) | (have HA8 : w8.heap[(W4.heap.size + 1 + 1)]? = some (.cells #[.int .i64 1, .int .i64 2, .int .i64 4, .int .i64 8, .int .i64 16] 3 (0, 0)) := blk_grown gr8 (fun e => by have h : (W4.heap.size + 1) = (W4.heap.size + 1 + 1) := Option.some.inj e; omega) (by (repeat (with_reducible first | assumption | exact blk_top (by simp; first | done | fail) | refine blk_drew ?_ | refine blk_alloc ?_)); (first | done | fail)); have l8 := (blk_xat (cs := [.int .i64 1, .int .i64 2, .int .i64 4, .int .i64 8, .int .i64 16]) HA8).1 k _ hAq) | skip); have s8 := HB8.size; have y1 := cell_any x1 HB8) | (refine step_append_all _ rfl (.tmp 28) (.tmp 30) 23 rfl W4.heap.size 32 i0 _ 5 72 Try.underlying23 hi hz0 hz1 hz2 rfl (by decide) (.slice (some ⟨(W4.heap.size + 1 + 1), 0, none⟩) 0 0) 0 [] (by go_simp) (lit_own0 (by (repeat (with_reducible first | assumption | exact blk_top (by simp; first | done | fail) | refine blk_drew ?_ | refine blk_alloc ?_)); (first | done | fail)) (by omega)) da D dc (p.datas.flatMap dCs) (by go_simp) (by rw [flat_len dCs_len, DE.out]) DN.out (DS.out _ (bnext B4.out (by (repeat (with_reducible first | assumption | exact Below.refl _ _ | refine keep_drew8 ?_ | refine keep_alloc8 ?_ _)); (first | done | fail)))) (dCs_one _) (by unfold maxLen; omega) (by omega) (Below.size (by (repeat (with_reducible first | assumption | exact Below.refl _ _ | refine keep_drew8 ?_ | refine keep_alloc8 ?_ _)); (first | done | fail))) ?_; intro a8 c8 w8 own8 gr8; rw [Nat.zero_add, List.nil_append] at own8; rw [Nat.zero_add]; have HB8 : Below W4.heap.size W4 w8 := Below.trans (by (repeat (with_reducible first | assumption | exact Below.refl _ _ | refine keep_drew8 ?_ | refine keep_alloc8 ?_ _)); (first | done | fail)) (below_grownB gr8 (fun b e => by have h : (W4.heap.size + 1 + 1) = b := Option.some.inj e; omega) (Below.size (by (repeat (with_reducible first | assumption | exact Below.refl _ _ | refine keep_drew8 ?_ | refine keep_alloc8 ?_ _)); (first | done | fail)))); (first | (have HG8 : w8.heap[W4.heap.size]? = some (.cells #[.int .i64 A, .bool false, .int .i64 (1 + s1), .slice none 0 0, .slice none 0 0] 32 (0, 0)) := blk_grown gr8 (fun e => by have h : (W4.heap.size + 1 + 1) = W4.heap.size := Option.some.inj e; omega) (by (repeat (with_reducible first | assumption | exact blk_top (by simp; first | done | fail) | refine blk_drew ?_ | refine blk_alloc ?_)); (first | done | fail))) | (have HG8 : w8.heap[(W4.heap.size + 1)]? = some (.cells #[.int .i64 A, .bool false, .int .i64 (1 + s1), .slice none 0 0, .slice none 0 0] 32 (0, 0)) := blk_grown gr8 (fun e => by have h : (W4.heap.size + 1 + 1) = (W4.heap.size + 1) := Option.some.inj e; omega) (by (repeat (with_reducible first | assumption | exact blk_top (by simp; first | done | fail) | refine blk_drew ?_ | refine blk_alloc ?_)); (first | done | fail))) | skip); (first | (have HA8 : w8.heap[W4.heap.size]? = some (.cells #[.int .i64 1, .int .i64 2, .int .i64 4, .int .i64 8, .int .i64 16] 3 (0, 0)) := blk_grown gr8 (fun e => by have h : (W4.heap.size + 1 + 1) = W4.heap.size := Option.some.inj e; omega) (by (repeat (with_reducible first | assumption | exact blk_top (by simp; first | done | fail) | refine blk_drew ?_ | refine blk_alloc ?_)); (first | done | fail)); have l8 := (blk_xat (cs := [.int .i64 1, .int .i64 2, .int .i64 4, .int .i64 8, .int .i64 16]) HA8).1 k _ hAq) | (have HA8 : w8.heap[(W4.heap.size + 1)]? = some (.cells #[.int .i64 1, .int .i64 2, .int .i64 4, .int .i64 8, .int .i64 16] 3 (0, 0)) := blk_grown gr8 (fun e => by have h : (W4.heap.size + 1 + 1) = (W4.heap.size + 1) := Option.some.inj e; omega) (by (repeat (with_reducible first | assumption | exact blk_top (by simp; first | done | fail) | refine blk_drew ?_ | refine blk_alloc ?_)); (first | done | fail)); have l8 := (blk_xat (cs := [.int .i64 1, .int .i64 2, .int .i64 4, .int .i64 8, .int .i64 16]) HA8).1 k _ hAq) | skip); have s8 := HB8.size; have y1 := cell_any x1 HB8) | fail)
      all_goals
        go_wp2_with fail
        go_meet
        have own9' := own9
        rw [← flat_snoc] at own9'
        with_reducible exact more_end Q4.out L4 HB9 own9' HL9.out
    case rest =>
      obtain ⟨q4, c4, hQ5, hD5, hB5, hl5⟩ := hcut
      have AL : ∀ (W : World) (o : Obj) (a : Addr) (v : Value), W.cell? a = some v → (W.alloc o).cell? a = some v := fun W o a v h => cell_any h (keep_alloc8 (Below.refl _ _) _)
      obtain ⟨w5, rfl⟩ : ∃ w5, w5 = wc := ⟨_, rfl⟩
      have B5 : Hid (Below w.heap.size w w5) := B4.out.trans (hB5.mono (by have := L2.out; omega))
      have P5 : Hid (XAt w5 w.heap.size [.slice fa F fc, .slice da D dc, .int .i64 E]) := P4.out.keep (hB5.block _ L2.out)
      have Q5 := hmk hQ5
      have D5 := hmk hD5
      have LT5 : Hid (w.heap.size < w2.heap.size ∧ w2.heap.size < w5.heap.size) := ⟨L2.out, hl5⟩
      have HA9 : Hid (1 ≤ A ∧ A ≤ 16) := ⟨hA1, hA2⟩
      clear hQ5 hD5 hB5 hl5 SE hqp x1 A1 A2 A3 hi hz0 hz1 hz2 hAq hA hA1 hA2 DS Q4 P4 P2 L2 L4 M4 DN hk5i hk5 hk hw1 hD3
      obtain ⟨R, eR⟩ : ∃ R, planZ p (iotaZ F) = R := ⟨_, rfl⟩
      have ER := hmk eR
      have PC5 : Hid (∀ W vo, Below w.heap.size w W → IsNums W vo (iotaZ F) → Calls Try.prog 6 #[.agg #[.slice fa F fc, .slice da D dc, .int .i64 E], vo] W fun e w' => PlanPost W.heap.size R e w' ∧ Below W.heap.size W w') := fun W vo hW ho => by rw [← ER.out]; exact PC'.out W vo _ hW ho (by rw [iota_len]; omega)
      clear eR
      have S5 : ∀ (W : World) (X j : Nat) (u0 u1 u2 u3 u4 v : Value), X ≠ w.heap.size → W.cell? ⟨w.heap.size, j, none⟩ = some v → (((((W.setCell ⟨X, 0, none⟩ u0).setCell ⟨X, 1, none⟩ u1).setCell ⟨X, 2, none⟩ u2).setCell ⟨X, 3, none⟩ u3).setCell ⟨X, 4, none⟩ u4).cell? ⟨w.heap.size, j, none⟩ = some v := fun W X j u0 u1 u2 u3 u4 v hn h => (World.cell?_of_block (a := ⟨w.heap.size, j, none⟩) (blk5p (Ne.symm hn) _ _ _ _ _)).trans h
      have x0 := P5.out.1 0 _ rfl
      have x1 := P5.out.1 1 _ rfl
      have x2 := P5.out.1 2 _ rfl
      have hw5 : w.heap.size < w5.heap.size := Nat.lt_trans LT5.out.1 LT5.out.2
      go_upto_region 5 with fail
      go_cut [8, 9] from 44 to 50 (fun x e wx => ∃ X a b n c m d u v y, x = .pointer (some ⟨X, 0, none⟩) ∧ e = .int .i64 R.1 ∧ PlnS w5 X a b n c m d u v y R.2 wx)
      case first =>
        go_region_held3 (fun W => W.cell? ⟨w.heap.size, 0, none⟩ = some (.slice fa F fc) ∧ W.cell? ⟨w.heap.size, 1, none⟩ = some (.slice da D dc) ∧ W.cell? ⟨w.heap.size, 2, none⟩ = some (.int .i64 E)) (first | (refine ⟨?_, ?_, ?_⟩ <;> (repeat (with_reducible first | exact x0 | exact x1 | exact x2 | assumption | refine AL _ _ _ _ ?_ | refine DR _ _ _ ?_ | refine S5 _ _ _ _ _ _ _ _ _ (by first | omega | (simp; omega)) ?_)) <;> done) | go_keep) (first | (go_at_call 6; refine (PC5.out _ _ (bnext B5.out (by (repeat (with_reducible first | assumption | exact Below.refl _ _ | refine keep_drew8 ?_ | refine keep_alloc8 ?_ _)); (first | done | fail))) (HN6.later (by (repeat (with_reducible first | assumption | exact Below.refl _ _ | refine keep_drew8 ?_ | refine keep_alloc8 ?_ _)); (first | done | fail)))).mono ?_; rintro e wp ⟨hp, b7⟩; obtain ⟨a7, n7, c7, bb7, m7, d7, x7, y7, z7, rfl, hpl⟩ := post_open hp; have HB7 : Below w5.heap.size w5 wp := bnext (by (repeat (with_reducible first | assumption | exact Below.refl _ _ | refine keep_drew8 ?_ | refine keep_alloc8 ?_ _)); (first | done | fail)) b7; (first | (have HX7 : wp.heap[w5.heap.size]? = some (.cells #[.slice none 0 0, .slice none 0 0, .int .i64 0, .int .i64 0, .int .i64 0] 34 (0, 0)) := blk_below b7 (by (repeat (with_reducible first | assumption | exact blk_top (by simp; first | done | fail) | refine blk_drew ?_ | refine blk_alloc ?_)); (first | done | fail)); have t0 := (blk_xat HX7).1 0 _ rfl; have t1 := (blk_xat HX7).1 1 _ rfl; have t2 := (blk_xat HX7).1 2 _ rfl; have t3 := (blk_xat HX7).1 3 _ rfl; have t4 := (blk_xat HX7).1 4 _ rfl; have r0 := (blk_xat HX7).2 0; have r1 := (blk_xat HX7).2 1; have r2 := (blk_xat HX7).2 2; have r3 := (blk_xat HX7).2 3; have r4 := (blk_xat HX7).2 4) | (have HX7 : wp.heap[wa.heap.size]? = some (.cells #[.slice none 0 0, .slice none 0 0, .int .i64 0, .int .i64 0, .int .i64 0] 34 (0, 0)) := blk_below b7 (by (repeat (with_reducible first | assumption | exact blk_top (by simp; first | done | fail) | refine blk_drew ?_ | refine blk_alloc ?_)); (first | done | fail)); have t0 := (blk_xat HX7).1 0 _ rfl; have t1 := (blk_xat HX7).1 1 _ rfl; have t2 := (blk_xat HX7).1 2 _ rfl; have t3 := (blk_xat HX7).1 3 _ rfl; have t4 := (blk_xat HX7).1 4 _ rfl; have r0 := (blk_xat HX7).2 0; have r1 := (blk_xat HX7).2 1; have r2 := (blk_xat HX7).2 2; have r3 := (blk_xat HX7).2 3; have r4 := (blk_xat HX7).2 4) | skip); have v0 := cell_any x0 HB7; have v1 := cell_any x1 HB7; have v2 := cell_any x2 HB7) | (go_at_call 7; refine (AC'.out _ (bnext B5.out (by (repeat (with_reducible first | assumption | exact Below.refl _ _ | refine keep_drew8 ?_ | refine keep_alloc8 ?_ _)); (first | done | fail)))).mono ?_; rintro e wa ⟨⟨ga6, rfl, hg1, hg2, hg3⟩, b6⟩; have HB6 : Below w5.heap.size w5 wa := bnext (by (repeat (with_reducible first | assumption | exact Below.refl _ _ | refine keep_drew8 ?_ | refine keep_alloc8 ?_ _)); (first | done | fail)) b6; have HN6 : IsNums wa (.slice (some ⟨ga6, 0, none⟩) F F) (iotaZ F) := nums_of hg3 hg2 (by omega); (first | (have HX6 : wa.heap[w5.heap.size]? = some (.cells #[.slice none 0 0, .slice none 0 0, .int .i64 0, .int .i64 0, .int .i64 0] 34 (0, 0)) := blk_below b6 (by (repeat (with_reducible first | assumption | exact blk_top (by simp; first | done | fail) | refine blk_drew ?_ | refine blk_alloc ?_)); (first | done | fail)); have hx6 : w5.heap.size < wa.heap.size := (Array.getElem?_eq_some_iff.1 HX6).1) | skip); have s6 := HB6.size; have y0 := cell_any x0 HB6; have y1 := cell_any x1 HB6; have y2 := cell_any x2 HB6) | fail)
        all_goals
          go_wp2_with fail
          go_meet
          refine ⟨_, a7, bb7, n7, c7, m7, d7, x7, y7, z7, rfl, rfl, ?_⟩
          as_aux_lemma =>
            first
              | with_reducible exact plns_early HX7 (by first | with_reducible assumption | omega | (simp; done) | (simp; omega) | (simp [World.drew]; done) | (simp [World.drew]; omega)) (by first | with_reducible assumption | omega | (simp; done) | (simp; omega) | (simp [World.drew]; done) | (simp [World.drew]; omega)) HB7 hpl
              | with_reducible exact plns_late 34 HB7 (by first | with_reducible assumption | omega | (simp; done) | (simp; omega) | (simp [World.drew]; done) | (simp [World.drew]; omega)) hpl
              | with_reducible exact plns_drew (plns_late 34 HB7 (by first | with_reducible assumption | omega | (simp; done) | (simp; omega) | (simp [World.drew]; done) | (simp [World.drew]; omega)) hpl)
      case rest =>
      obtain ⟨X, xa, xb, xn, xc, xm, xd, xu, xv, xy, rfl, rfl, hM⟩ := hcut
      obtain ⟨w6, rfl⟩ : ∃ w6, w6 = wc := ⟨_, rfl⟩
      have B6 : Hid (Below w.heap.size w w6) := B5.out.trans (hM.2.2.1.mono (Nat.le_of_lt hw5))
      have MX : Hid (XAt w6 X [.slice xa xn xc, .slice xb xm xd, .int .i64 xu, .int .i64 xv, .int .i64 xy] ∧ X < w6.heap.size) := ⟨hM.1, hM.2.2.2.2⟩
      have MP : Hid (IsPlan w5.heap.size w6 (.agg #[.slice xa xn xc, .slice xb xm xd, .int .i64 xu, .int .i64 xv, .int .i64 xy]) R.2) := hM.2.1
      have L6 : Hid (w.heap.size < w6.heap.size ∧ w2.heap.size < w6.heap.size) := by
        have h1 := LT5.out; have h2 := hM.2.2.1.size; exact ⟨by omega, by omega⟩
      have P6 : Hid (XAt w6 w.heap.size [.slice fa F fc, .slice da D dc, .int .i64 E]) := P5.out.later hw5 hM.2.2.1
      have Q6 : Hid (XAt w6 w2.heap.size [.slice fa F fc, .slice q4 (D + 1) c4, .int .i64 E]) := Q5.out.later LT5.out.2 hM.2.2.1
      have QP6 : Hid (IsP w6 (.agg #[.slice fa F fc, .slice q4 (D + 1) c4, .int .i64 E]) (moreP p (newD A (1 + s1)))) := by
        obtain ⟨vf, vd, hv, hf, -⟩ := PP.out
        simp only [Value.agg.injEq, Array.mk.injEq, List.cons.injEq, and_true] at hv
        obtain ⟨rfl, -, -⟩ := hv
        rw [EF.out] at hf
        exact ⟨_, _, by rw [← EE.out]; rfl, hf.later B6.out, D5.out.later hM.2.2.1⟩
      clear hM x0 x1 x2 P5 Q5 D5 S5 AC' PC5 PC' hw5
      have AC6 : Hid (∀ W, Below w6.heap.size w6 W → Calls Try.prog 7 #[.agg #[.slice fa F fc, .slice q4 (D + 1) c4, .int .i64 E]] W fun e w' => (∃ g, e = .returned (.slice (some ⟨g, 0, none⟩) F F) ∧ W.heap.size ≤ g ∧ g < w'.heap.size ∧ XAt w' g (nums (iotaZ F))) ∧ Below W.heap.size W w') := fun W hW => by
        have h := all_any (QP6.out.later hW) HM.out.1
        rw [show (moreP p (newD A (1 + s1))).codes.length = F from EF.out] at h
        exact h
      obtain ⟨R', eR'⟩ : ∃ R', planZ (moreP p (newD A (1 + s1))) (iotaZ F) = R' := ⟨_, rfl⟩
      have ER' := hmk eR'
      have PC6 : Hid (∀ W vo, Below w6.heap.size w6 W → IsNums W vo (iotaZ F) → Calls Try.prog 6 #[.agg #[.slice fa F fc, .slice q4 (D + 1) c4, .int .i64 E], vo] W fun e w' => PlanPost W.heap.size R' e w' ∧ Below W.heap.size W w') := fun W vo hW ho => by
        rw [← ER'.out]
        exact plan_anyQ (QP6.out.later hW) ho (more_may HM.out ⟨HA9.out.1, HA9.out.2, by show 1 ≤ 1 + s1; omega, by show 1 + s1 ≤ 4096; omega⟩) (by rw [iota_len]; omega)
      clear eR'
      have B66 : Hid (Below w6.heap.size w6 w6) := Below.refl _ _
      have S5 : ∀ (W : World) (X j : Nat) (u0 u1 u2 u3 u4 v : Value), X ≠ w2.heap.size → W.cell? ⟨w2.heap.size, j, none⟩ = some v → (((((W.setCell ⟨X, 0, none⟩ u0).setCell ⟨X, 1, none⟩ u1).setCell ⟨X, 2, none⟩ u2).setCell ⟨X, 3, none⟩ u3).setCell ⟨X, 4, none⟩ u4).cell? ⟨w2.heap.size, j, none⟩ = some v := fun W X j u0 u1 u2 u3 u4 v hn h => (World.cell?_of_block (a := ⟨w2.heap.size, j, none⟩) (blk5p (Ne.symm hn) _ _ _ _ _)).trans h
      have x0 := Q6.out.1 0 _ rfl
      have x1 := Q6.out.1 1 _ rfl
      have x2 := Q6.out.1 2 _ rfl
      have hw6 : w2.heap.size < w6.heap.size := L6.out.2
      go_upto_region 6 with fail
      go_cut [10, 11] from 51 to 57 (fun x e wx => ∃ X a b n c m d u v y, x = .pointer (some ⟨X, 0, none⟩) ∧ e = .int .i64 R'.1 ∧ PlnS w6 X a b n c m d u v y R'.2 wx)
      case first =>
        go_region_held3 (fun W => W.cell? ⟨w2.heap.size, 0, none⟩ = some (.slice fa F fc) ∧ W.cell? ⟨w2.heap.size, 1, none⟩ = some (.slice q4 (D + 1) c4) ∧ W.cell? ⟨w2.heap.size, 2, none⟩ = some (.int .i64 E)) (first | (refine ⟨?_, ?_, ?_⟩ <;> (repeat (with_reducible first | exact x0 | exact x1 | exact x2 | assumption | refine AL _ _ _ _ ?_ | refine DR _ _ _ ?_ | refine S5 _ _ _ _ _ _ _ _ _ (by first | omega | (simp; omega)) ?_)) <;> done) | go_keep) (first | (go_at_call 6; refine (PC6.out _ _ (bnext B66.out (by (repeat (with_reducible first | assumption | exact Below.refl _ _ | refine keep_drew8 ?_ | refine keep_alloc8 ?_ _)); (first | done | fail))) (HN6.later (by (repeat (with_reducible first | assumption | exact Below.refl _ _ | refine keep_drew8 ?_ | refine keep_alloc8 ?_ _)); (first | done | fail)))).mono ?_; rintro e wp ⟨hp, b7⟩; obtain ⟨a7, n7, c7, bb7, m7, d7, x7, y7, z7, rfl, hpl⟩ := post_open hp; have HB7 : Below w6.heap.size w6 wp := bnext (by (repeat (with_reducible first | assumption | exact Below.refl _ _ | refine keep_drew8 ?_ | refine keep_alloc8 ?_ _)); (first | done | fail)) b7; (first | (have HX7 : wp.heap[w6.heap.size]? = some (.cells #[.slice none 0 0, .slice none 0 0, .int .i64 0, .int .i64 0, .int .i64 0] 34 (0, 0)) := blk_below b7 (by (repeat (with_reducible first | assumption | exact blk_top (by simp; first | done | fail) | refine blk_drew ?_ | refine blk_alloc ?_)); (first | done | fail)); have t0 := (blk_xat HX7).1 0 _ rfl; have t1 := (blk_xat HX7).1 1 _ rfl; have t2 := (blk_xat HX7).1 2 _ rfl; have t3 := (blk_xat HX7).1 3 _ rfl; have t4 := (blk_xat HX7).1 4 _ rfl; have r0 := (blk_xat HX7).2 0; have r1 := (blk_xat HX7).2 1; have r2 := (blk_xat HX7).2 2; have r3 := (blk_xat HX7).2 3; have r4 := (blk_xat HX7).2 4) | (have HX7 : wp.heap[wa.heap.size]? = some (.cells #[.slice none 0 0, .slice none 0 0, .int .i64 0, .int .i64 0, .int .i64 0] 34 (0, 0)) := blk_below b7 (by (repeat (with_reducible first | assumption | exact blk_top (by simp; first | done | fail) | refine blk_drew ?_ | refine blk_alloc ?_)); (first | done | fail)); have t0 := (blk_xat HX7).1 0 _ rfl; have t1 := (blk_xat HX7).1 1 _ rfl; have t2 := (blk_xat HX7).1 2 _ rfl; have t3 := (blk_xat HX7).1 3 _ rfl; have t4 := (blk_xat HX7).1 4 _ rfl; have r0 := (blk_xat HX7).2 0; have r1 := (blk_xat HX7).2 1; have r2 := (blk_xat HX7).2 2; have r3 := (blk_xat HX7).2 3; have r4 := (blk_xat HX7).2 4) | skip); have v0 := cell_any x0 HB7; have v1 := cell_any x1 HB7; have v2 := cell_any x2 HB7) | (go_at_call 7; refine (AC6.out _ (bnext B66.out (by (repeat (with_reducible first | assumption | exact Below.refl _ _ | refine keep_drew8 ?_ | refine keep_alloc8 ?_ _)); (first | done | fail)))).mono ?_; rintro e wa ⟨⟨ga6, rfl, hg1, hg2, hg3⟩, b6⟩; have HB6 : Below w6.heap.size w6 wa := bnext (by (repeat (with_reducible first | assumption | exact Below.refl _ _ | refine keep_drew8 ?_ | refine keep_alloc8 ?_ _)); (first | done | fail)) b6; have HN6 : IsNums wa (.slice (some ⟨ga6, 0, none⟩) F F) (iotaZ F) := nums_of hg3 hg2 (by omega); (first | (have HX6 : wa.heap[w6.heap.size]? = some (.cells #[.slice none 0 0, .slice none 0 0, .int .i64 0, .int .i64 0, .int .i64 0] 34 (0, 0)) := blk_below b6 (by (repeat (with_reducible first | assumption | exact blk_top (by simp; first | done | fail) | refine blk_drew ?_ | refine blk_alloc ?_)); (first | done | fail)); have hx6 : w6.heap.size < wa.heap.size := (Array.getElem?_eq_some_iff.1 HX6).1) | skip); have s6 := HB6.size; have y0 := cell_any x0 HB6; have y1 := cell_any x1 HB6; have y2 := cell_any x2 HB6) | fail)
        all_goals
          go_wp2_with fail
          go_meet
          refine ⟨_, a7, bb7, n7, c7, m7, d7, x7, y7, z7, rfl, rfl, ?_⟩
          as_aux_lemma =>
            first
              | with_reducible exact plns_early HX7 (by first | with_reducible assumption | omega | (simp; done) | (simp; omega) | (simp [World.drew]; done) | (simp [World.drew]; omega)) (by first | with_reducible assumption | omega | (simp; done) | (simp; omega) | (simp [World.drew]; done) | (simp [World.drew]; omega)) HB7 hpl
              | with_reducible exact plns_late 34 HB7 (by first | with_reducible assumption | omega | (simp; done) | (simp; omega) | (simp [World.drew]; done) | (simp [World.drew]; omega)) hpl
              | with_reducible exact plns_drew (plns_late 34 HB7 (by first | with_reducible assumption | omega | (simp; done) | (simp; omega) | (simp [World.drew]; done) | (simp [World.drew]; omega)) hpl)
      case rest =>
      obtain ⟨Y, ya, yb, yn, yc, ym, yd, yu, yv, yy, rfl, rfl, hN⟩ := hcut
      obtain ⟨w8, rfl⟩ : ∃ w8, w8 = wc := ⟨_, rfl⟩
      have B8 : Hid (Below w.heap.size w w8) := B6.out.trans (hN.2.2.1.mono (Nat.le_of_lt L6.out.1))
      have X8 : Hid (XAt w8 X [.slice xa xn xc, .slice xb xm xd, .int .i64 xu, .int .i64 xv, .int .i64 xy]) := MX.out.1.later MX.out.2 hN.2.2.1
      have Y8 : Hid (XAt w8 Y [.slice ya yn yc, .slice yb ym yd, .int .i64 yu, .int .i64 yv, .int .i64 yy]) := hN.1
      have XP : Hid (IsPlan w5.heap.size w8 (.agg #[.slice xa xn xc, .slice xb xm xd, .int .i64 xu, .int .i64 xv, .int .i64 xy]) R.2) := MP.out.later hN.2.2.1
      have YP : Hid (IsPlan w6.heap.size w8 (.agg #[.slice ya yn yc, .slice yb ym yd, .int .i64 yu, .int .i64 yv, .int .i64 yy]) R'.2) := hN.2.1
      have P8 : Hid (XAt w8 w.heap.size [.slice fa F fc, .slice da D dc, .int .i64 E]) := P6.out.later L6.out.1 hN.2.2.1
      have hmo := plan_more (p := p) (d := newD A (1 + s1)) (o := iotaZ F) rfl HA9.out.1 HM.out.2.2.2
      rw [ER.out, ER'.out] at hmo
      have MORE := hmk hmo
      clear hmo hN x0 x1 x2 P6 Q6 QP6 MX MP S5 AC6 PC6 hw6 B66
      obtain ⟨e1, he1⟩ : ∃ e1, R.1 = e1 := ⟨_, rfl⟩
      obtain ⟨e2, he2⟩ : ∃ e2, R'.1 = e2 := ⟨_, rfl⟩
      rw [he1, he2]
      have HE1 := hmk he1
      have HE2 := hmk he2
      clear he1 he2
      by_cases h1 : e1 = 0
      rotate_left
      · have t1 : (e1 != 0) = true := by simpa using h1
        clear h1
        go_wp2
        go_ret
        exact ⟨rfl, B8.out⟩
      subst h1
      have hmo := MORE.out HE1.out
      rw [HE2.out] at hmo
      obtain ⟨F1, DL, T, b, wt, a, eX, hDL, hba, ha1, ha0, hor⟩ := hmo
      rcases hor with h2 | ⟨h2, eY⟩
      · subst h2
        have hX := hmk eX
        clear eX hDL hba ha1 ha0
        go_wp2
        go_ret
        exact ⟨rfl, B8.out⟩
      subst h2
      have hx := XP.out
      have hy := YP.out
      rw [eX] at hx
      rw [eY] at hy
      obtain ⟨vc, vd, hv, hc, hd, -⟩ := hx
      simp only [Value.agg.injEq, Array.mk.injEq, List.cons.injEq, and_true, Value.int.injEq, true_and] at hv
      obtain ⟨rfl, rfl, e3, e4, e5⟩ := hv
      obtain ⟨vc', vd', hv, hc', hd', -⟩ := hy
      simp only [Value.agg.injEq, Array.mk.injEq, List.cons.injEq, and_true, Value.int.injEq, true_and] at hv
      obtain ⟨rfl, rfl, f3, f4, f5⟩ := hv
      replace f4 : yv = a + (1 + s1) := f4
      replace ha1 : a ≤ 65536 + A := ha1
      dsimp only at hc hd hc' hd'
      have X9 : Hid (XAt w8 X [.slice xa xn xc, .slice xb xm xd, .int .i64 T, .int .i64 b, .int .i64 wt]) := by
        have h := X8.out
        rw [e3, e4, e5] at h
        exact h
      have Y9 : Hid (XAt w8 Y [.slice ya yn yc, .slice yb ym yd, .int .i64 T, .int .i64 (a + (1 + s1)), .int .i64 wt]) := by
        have h := Y8.out
        rw [f3, f4, f5] at h
        exact h
      have hDLD : DL.length = D := hDL.trans DE.out
      obtain ⟨hym, YC⟩ := row_cell hd'
      rw [List.length_append, List.length_singleton, hDLD] at hym
      obtain ⟨g, a', rfl, hga, gD⟩ := YC D (by omega)
      rw [List.getElem?_append_right (by omega), hDLD, Nat.sub_self] at hga
      obtain rfl : a = a' := Option.some.inj hga
      have hcap : ym ≤ yd := by
        obtain ⟨a0, c0, e, hh, -⟩ := hd'.isNums
        simp only [Value.slice.injEq] at e
        have h := hh.1.1
        rw [List.length_append, List.length_singleton, hDLD] at h
        obtain ⟨-, -, rfl⟩ := e
        omega
      have HT : Hid (IsNums w8 (.slice (some ⟨g, 0, none⟩) D yd) DL) := by
        have h := take_lst hd'.isNums (k := D) (by rw [List.length_append, List.length_singleton, hDLD]; omega)
        rwa [List.take_left' hDLD] at h
      have N1 : Hid (IsNums w8 (.slice xb xm xd) DL) := hd.isNums
      have N3 : Hid (IsNums w8 (.slice xa xn xc) F1) := hc.isNums
      have N4 : Hid (IsNums w8 (.slice ya yn yc) F1) := hc'.isNums
      have IC : Hid (∀ W v v' l, Below w8.heap.size w8 W → IsNums w8 v l → IsNums w8 v' l → Calls Try.prog 8 #[v, v'] W fun e w' => e = .returned (.bool true) ∧ Below W.heap.size W w') := fun W v v' l hW h1 h2 => by
        refine (rints_any (h1.later hW) (h2.later hW)).mono ?_
        rintro e w' ⟨hs, hb⟩
        exact ⟨hs.yes rfl, hb⟩
      have HK : Hid (DL.length = D ∧ ym = D + 1 ∧ ym ≤ yd) := ⟨hDLD, hym, hcap⟩
      have S1 : ∀ W, (Instr.slice 28 (.slice (some ⟨g, 0, none⟩) ym yd) none (some (.int .i64 (D : Int))) none).run Try.prog W = .ok (.slice (some ⟨g, 0, none⟩) D yd) W := fun W => slice_firstI W _ ym yd D (by omega) (by omega)
      have hA9 := HA9.out
      have k1 : IntKind.i64.wrap (a + 1) = a + 1 := IntWalk.i64_in _ (by omega)
      have k2 : IntKind.i64.wrap (a + 1 + s1) = a + 1 + s1 := IntWalk.i64_in _ (by omega)
      have k3 : wrap64 (a + 1) = a + 1 := IntWalk.wrap64_in _ (by omega)
      have k4 : wrap64 (a + 1 + s1) = a + 1 + s1 := IntWalk.wrap64_in _ (by omega)
      have k5 : IntKind.i64.wrap s1 = s1 := IntWalk.i64_in _ (by omega)
      have k6 : (a + (1 + s1) == a + 1 + s1) = true := by rw [show a + (1 + s1) = a + 1 + s1 by omega]; simp
      have k7 : (wt == wt) = true := by simp
      have k8 : decide (b ≤ a) = true := by simpa using hba
      have k9 : (D : Int) < ym := by omega
      have k10 : (0 : Int) ≤ D := by omega
      clear hd hc hd' hc' hym YC X8 Y8 XP YP MORE HE1 HE2 eX eY hDL hDLD hcap hga e3 e4 e5 f3 f4 f5 ha1 ha0 hA9
      have p1 := P8.out.1 1 _ rfl
      go_upto_region 9 with fail
      go_upto_region 10 with fail
      clear p1
      have x0 := X9.out.1 0 _ rfl
      have x1 := X9.out.1 1 _ rfl
      have x3 := X9.out.1 3 _ rfl
      have x4 := X9.out.1 4 _ rfl
      have y0 := Y9.out.1 0 _ rfl
      have y1 := Y9.out.1 1 _ rfl
      have y3 := Y9.out.1 3 _ rfl
      have y4 := Y9.out.1 4 _ rfl
      go_region_held3 (fun W => W.cell? ⟨X, 0, none⟩ = some (.slice xa xn xc) ∧ W.cell? ⟨X, 1, none⟩ = some (.slice xb xm xd) ∧ W.cell? ⟨X, 3, none⟩ = some (.int .i64 b) ∧ W.cell? ⟨X, 4, none⟩ = some (.int .i64 wt) ∧ W.cell? ⟨Y, 0, none⟩ = some (.slice ya yn yc) ∧ W.cell? ⟨Y, 1, none⟩ = some (.slice (some ⟨g, 0, none⟩) ym yd) ∧ W.cell? ⟨Y, 3, none⟩ = some (.int .i64 (a + (1 + s1))) ∧ W.cell? ⟨Y, 4, none⟩ = some (.int .i64 wt) ∧ W.cell? ⟨g, D, none⟩ = some (.int .i64 a)) (first | (refine ⟨?_, ?_, ?_, ?_, ?_, ?_, ?_, ?_, ?_⟩ <;> (repeat (with_reducible first | assumption | refine DR _ _ _ ?_)) <;> done) | go_keep) (first | (go_at_call 8; refine (IC.out _ _ _ _ (by (repeat (with_reducible first | assumption | exact Below.refl _ _ | refine keep_drew8 ?_ | refine keep_alloc8 ?_ _)); (first | done | fail)) (by first | with_reducible exact N1.out | with_reducible exact HT.out | with_reducible exact N3.out | with_reducible exact N4.out) (by first | with_reducible exact N1.out | with_reducible exact HT.out | with_reducible exact N3.out | with_reducible exact N4.out)).mono ?_; rintro e w12 ⟨rfl, hB⟩; have U : Below w8.heap.size w8 w12 := bnext (by (repeat (with_reducible first | assumption | exact Below.refl _ _ | refine keep_drew8 ?_ | refine keep_alloc8 ?_ _)); (first | done | fail)) hB; have U12 := U; have zx0 := cell_any x0 U; have zx1 := cell_any x1 U; have zx3 := cell_any x3 U; have zx4 := cell_any x4 U; have zy0 := cell_any y0 U; have zy1 := cell_any y1 U; have zy3 := cell_any y3 U; have zy4 := cell_any y4 U; have zgD := cell_any gD U) | fail)
      all_goals
        go_wp2_with fail
        go_ret
        exact ⟨rfl, bnext B8.out (by (repeat (with_reducible first | assumption | exact Below.refl _ _ | refine keep_drew8 ?_ | refine keep_alloc8 ?_ _)); (first | done | fail))⟩
end Go.Proofs.Ytlmijnaimdknnaa
