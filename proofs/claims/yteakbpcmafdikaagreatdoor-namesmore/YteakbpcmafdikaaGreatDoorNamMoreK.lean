/- An object more behind a list of objects, in memory; a program cut. No condition. -/
import Derived.Test.YteakbpcmafdikaaGreatDoorNamMoreM
import Derived.Test.YteakbpcmafdikaaGreatDoorNamPlacesW
namespace Go.Proofs.YteakbpcmafdikaaGreatDoor
open Go.ChangeShapes Go.WideShapes Go.ChangeAt Go.RowKit
set_option linter.unusedVariables false
set_option linter.unusedSimpArgs false
/-- A slice's head in memory; an object's three. -/
structure HdM where
  a : Option Addr
  n : Nat
  c : Nat
structure OC where
  f : HdM
  d : HdM
  t : HdM
def HdM.v (h : HdM) : Value := .slice h.a h.n h.c
def oCs (x : OC) : List Value := [x.f.v, x.d.v, x.t.v]
theorem oCs_len (x : OC) : (oCs x).length = 3 := rfl
theorem oCs_one (l : List OC) : ∀ u ∈ l.flatMap oCs, u.oneCell' = true := fun u hu => by
  obtain ⟨d, -, h⟩ := List.mem_flatMap.mp hu
  simp only [oCs, List.mem_cons, List.not_mem_nil, or_false] at h
  rcases h with rfl | rfl | rfl <;> rfl
/-- What the heads' lists are. -/
def OfO (w : World) (o : ObjM) (x : OC) : Prop := IsFuncs (fun _ => True) w x.f.v o.funcs ∧ IsDatas (fun _ => True) w x.d.v o.datas ∧ IsNotes (fun _ => True) w x.t.v o.notes
theorem OfO.later {w w' : World} {o : ObjM} {x : OC} (h : OfO w o x) (hb : Below w.heap.size w w') : OfO w' o x := ⟨h.1.keep (Stay.of_below hb), h.2.1.keep (Stay.of_below hb), h.2.2.keep (Stay.of_below hb)⟩
theorem hd_of {α : Type} {sz : Nat} {el : Nat → Nat → α → Prop} {A : Nat → Prop} {v : Value} {l : List α} (h : LstA sz el A v l) : ∃ x : HdM, v = x.v := by
  obtain ⟨a, c, rfl, -⟩ := h
  exact ⟨⟨a, _, c⟩, rfl⟩
theorem lst_pick {α β : Type} {sz : Nat} {el : Nat → Nat → α → Prop} {el' : Nat → Nat → β → Prop} {A : Nat → Prop} {R : α → β → Prop} {v : Value} {l : List α} (h : LstA sz el A v l) (hx : ∀ b o x, A b → el b o x → ∃ y, el' b o y ∧ R x y) :
    ∃ l' : List β, l'.length = l.length ∧ LstA sz el' A v l' ∧ ∀ (k : Nat) x, l[k]? = some x → ∃ y, l'[k]? = some y ∧ R x y := by
  obtain ⟨a, c, e, hh, hA, hl⟩ := h
  rcases hl with rfl | ⟨b, off, e2, hc⟩
  · exact ⟨[], rfl, ⟨a, c, e, hh, hA, .inl rfl⟩, fun k x h => by simp at h⟩
  · have key : ∀ i : Fin l.length, ∃ y, el' b (off + i * sz) y ∧ R l[i] y := fun i => hx b _ _ (hA _ e2) (hc i l[i] (List.getElem?_eq_getElem i.2))
    refine ⟨List.ofFn fun i => (key i).choose, by simp, ⟨a, c, by rw [e]; simp, by simpa using hh, hA, .inr ⟨b, off, e2, fun i y hy => ?_⟩⟩, fun k x hk => ?_⟩
    · rw [List.getElem?_ofFn] at hy
      split at hy
      · rename_i hi
        injection hy with hy
        rw [← hy]
        exact (key ⟨i, hi⟩).choose_spec.1
      · cases hy
    · obtain ⟨hk1, hk2⟩ := List.getElem?_eq_some_iff.1 hk
      refine ⟨(key ⟨k, hk1⟩).choose, by rw [List.getElem?_ofFn, dif_pos hk1], ?_⟩
      rw [← hk2]
      exact (key ⟨k, hk1⟩).choose_spec.2
theorem objs_cells {w : World} {v : Value} {l : List ObjM} (h : IsObjs (fun _ => True) w v l) :
    ∃ l' : List OC, l'.length = l.length ∧ (∀ (k : Nat) o, l[k]? = some o → ∃ x, l'[k]? = some x ∧ OfO w o x) ∧ ∃ a c, v = .slice a l.length c ∧ Head a l.length c ∧ l.length ≤ maxLen ∧ ∀ ad, a = some ad → ∀ j u, (l'.flatMap oCs)[j]? = some u → w.cell? (ad.add j) = some u := by
  obtain ⟨l', hn, hl, hR⟩ := lst_pick (el' := fun b o x => ∀ j u, (oCs x)[j]? = some u → w.cell? ⟨b, o + j, none⟩ = some u) (R := OfO w) h fun b o x _ hx => by
    obtain ⟨vf, vd, vn, h0, h1, h2, q0, q1, q2⟩ := hx
    obtain ⟨f, rfl⟩ := hd_of q0
    obtain ⟨d, rfl⟩ := hd_of q1
    obtain ⟨t, rfl⟩ := hd_of q2
    refine ⟨⟨f, d, t⟩, fun j u hj => ?_, q0, q1, q2⟩
    match j, hj with
    | 0, hj => simp [oCs] at hj; subst hj; exact h0
    | 1, hj => simp [oCs] at hj; subst hj; exact h1
    | 2, hj => simp [oCs] at hj; subst hj; exact h2
  obtain ⟨a, c, e, ⟨hh, hc⟩, -, hx⟩ := hl
  rw [hn] at e hh
  refine ⟨l', hn, hR, a, c, e, hh, Nat.le_trans hh.1 hc, fun ad ea j u hu => ?_⟩
  have hj : j < l'.length * 3 := by have := (List.getElem?_eq_some_iff.1 hu).1; rwa [flat_len oCs_len] at this
  rcases hx with rfl | ⟨b, off, e', hx⟩
  · simp at hj
  · rw [e'] at ea
    simp only [Option.some.injEq] at ea
    subst ea
    have hi : j / 3 < l'.length := by omega
    have hd := List.getElem?_eq_getElem hi
    have hr : j % 3 < (oCs l'[j / 3]).length := by rw [oCs_len]; omega
    have hv := List.getElem?_eq_getElem hr
    have h1 := flat_get oCs_len l' (j / 3) _ hd (j % 3) _ hv
    rw [show j / 3 * 3 + j % 3 = j by omega, hu] at h1
    obtain rfl := Option.some.inj h1
    have h2 := hx _ _ hd _ _ hv
    rw [show (⟨b, off, none⟩ : Addr).add j = ⟨b, off + j / 3 * 3 + j % 3, none⟩ from by rw [show off + j / 3 * 3 + j % 3 = off + j by omega]; cases j <;> simp [Addr.add]]
    exact h2
theorem objs_own {w : World} {base n c : Nat} {a : Option Addr} {l' : List OC} {l : List ObjM} (h : w.ownsRow base 46 3 (.slice a n c) n (l'.flatMap oCs)) (hn : l'.length = l.length) (hR : ∀ (k : Nat) o, l[k]? = some o → ∃ x, l'[k]? = some x ∧ OfO w o x) : IsObjs (fun _ => True) w (.slice a n c) l := by
  have hl : l'.length = n := by have := h.1; rw [flat_len oCs_len] at this; omega
  subst hl
  have hL := own_lst (el := fun b o x => ∀ j u, (oCs x)[j]? = some u → w.cell? ⟨b, o + j, none⟩ = some u) oCs_len h (fun b o x _ hc => hc)
  obtain ⟨a', c', e, hh, -, hx⟩ := hL
  rw [hn] at e hh ⊢
  refine ⟨a', c', e, hh, fun _ _ => trivial, ?_⟩
  rcases hx with rfl | ⟨b, off, e', hx⟩
  · left
    have : l.length = 0 := by rw [← hn]; rfl
    exact List.eq_nil_of_length_eq_zero this
  · right
    refine ⟨b, off, e', fun i o hi => ?_⟩
    obtain ⟨x, hx1, hx2⟩ := hR i o hi
    have hc := hx i x hx1
    exact ⟨_, _, _, hc 0 _ rfl, hc 1 _ rfl, hc 2 _ rfl, hx2⟩
theorem LstA.take {α : Type} {sz : Nat} {el : Nat → Nat → α → Prop} {A : Nat → Prop} {a : Option Addr} {n c : Nat} {l : List α} (h : LstA sz el A (.slice a n c) l) {k : Nat} (hk : k ≤ l.length) : LstA sz el A (.slice a k c) (l.take k) := by
  obtain ⟨a', c', e, ⟨hh, hc⟩, hA, hx⟩ := h
  injection e with e1 e2 e3
  subst e1 e3
  have hl : (l.take k).length = k := by rw [List.length_take]; omega
  refine ⟨a, c, by rw [hl], ⟨⟨by have := hh.1; omega, hh.2⟩, hc⟩, hA, ?_⟩
  rcases hx with rfl | ⟨b, off, e', hx⟩
  · left; simp
  · right
    refine ⟨b, off, e', fun i x hi => ?_⟩
    rw [List.getElem?_take] at hi
    split at hi
    · exact hx i x hi
    · cases hi
abbrev xC : List Value := [.string xT, .int .i64 3, .int .i64 4, .bool false, .int .i64 4, .slice none 0 0, .slice none 0 0]
def mC (f d : Nat) : OC := ⟨⟨some ⟨f, 0, none⟩, 2, 2⟩, ⟨some ⟨d, 0, none⟩, 1, 1⟩, ⟨none, 0, 0⟩⟩
theorem more_at {X : World} {f d : Nat} (h1 : RAt X f 0 fT 3) (h2 : RAt X f 4 mainT 3) (hx : XAt X d xC) : OfO X moreO (mC f d) := by
  refine ⟨⟨some ⟨f, 0, none⟩, 2, rfl, ⟨⟨Nat.le_refl _, fun e => by cases e⟩, by decide⟩, fun _ _ => trivial, .inr ⟨f, 0, rfl, fun i y hi => ?_⟩⟩, ⟨some ⟨d, 0, none⟩, 1, rfl, ⟨⟨Nat.le_refl _, fun e => by cases e⟩, by decide⟩, fun _ _ => trivial, .inr ⟨d, 0, rfl, fun i y hi => ?_⟩⟩, LstA.nil⟩
  · match i, hi with
    | 0, hi => simp [moreO] at hi; subst hi; exact h1.at (by decide)
    | 1, hi => simp [moreO] at hi; subst hi; exact h2.at (by decide)
    | i + 2, hi => simp [moreO] at hi
  · match i, hi with
    | 0, hi => simp [moreO] at hi; subst hi; exact ⟨_, _, hx.1 0 _ rfl, hx.1 1 _ rfl, hx.1 2 _ rfl, hx.1 3 _ rfl, hx.1 4 _ rfl, hx.1 5 _ rfl, hx.1 6 _ rfl, ⟨LstA.nil, fun x hx => by cases hx⟩, LstA.nil, by decide⟩
    | i + 1, hi => simp [moreO] at hi
theorem more_few : fewO moreO := ⟨by decide, fun x hx => by simp [moreO] at hx; rcases hx with rfl | rfl <;> exact rF_few (by decide), fun x hx => by simp [moreO] at hx; subst hx; exact ⟨by decide, by decide, by decide⟩⟩
/-! Blocks that stand. -/
theorem blk_top {W : World} {o : Obj} {j : Nat} (h : j = W.heap.size) : (W.alloc o).heap[j]? = some o := by subst h; exact heap_alloc_new W o
theorem blk_alloc {W : World} {o p : Obj} {j : Nat} (h : W.heap[j]? = some p) : (W.alloc o).heap[j]? = some p := by
  have hj := (Array.getElem?_eq_some_iff.1 h).1
  exact ((keep_alloc8 (Below.refl W.heap.size W) o).block j hj).trans h
theorem blk_drew {W : World} {p : Obj} {j : Nat} (h : W.heap[j]? = some p) : W.drew.heap[j]? = some p := h
theorem blk_grown {W W' : World} {p : Obj} {j : Nat} {r : Option Nat} (h : W.grownBy W' r) (hn : r ≠ some j) (hp : W.heap[j]? = some p) : W'.heap[j]? = some p :=
  (h.block j (Array.getElem?_eq_some_iff.1 hp).1 (fun e => hn e.symm)).trans hp
theorem blk_below {W W' : World} {p : Obj} {j : Nat} (h : Below W.heap.size W W') (hp : W.heap[j]? = some p) : W'.heap[j]? = some p :=
  (h.block j (Array.getElem?_eq_some_iff.1 hp).1).trans hp
theorem lit_own0 {W : World} {E B : Nat} {t : TypeId} (h : W.heap[E]? = some (.cells #[] t (0, 0))) (hB : B ≤ E) : W.ownsRow B t 3 (.slice (some ⟨E, 0, none⟩) 0 0) 0 [] :=
  ⟨rfl, .inr ⟨E, 0, #[], rfl, hB, h, Nat.le_refl _, Nat.zero_le _, rfl, rfl⟩⟩
theorem blk_xat {W : World} {g : Nat} {t : TypeId} {cs : List Value} (h : W.heap[g]? = some (.cells cs.toArray t (0, 0))) : XAt W g cs :=
  ⟨fun j u hj => by rw [cell_of_row W g j _ t (0, 0) h]; simpa using hj, fun j => frozen_of_row W g j _ t h⟩
theorem lit_cells {W : World} {g : Nat} {t : TypeId} {cs : List Value} (h : W.heap[g]? = some (.cells cs.toArray t (0, 0))) : ∀ ad, (some ⟨g, 0, none⟩ : Option Addr) = some ad → ∀ j u, cs[j]? = some u → W.cell? (ad.add j) = some u := fun ad e j u hu => by
  injection e with e
  subst e
  rw [show (⟨g, 0, none⟩ : Addr).add j = ⟨g, j, none⟩ from by cases j <;> simp [Addr.add]]
  exact (blk_xat h).1 j u hu
theorem below_grownB {w w' : World} {B : Nat} {r : Option Nat} (h : w.grownBy w' r) (hr : ∀ b, r = some b → B ≤ b) (hB : B ≤ w.heap.size) : Below B w w' := ⟨h.os, h.tape, h.output, h.size, fun k hk => h.block k (by omega) (fun e => by have := hr k e.symm; omega)⟩
theorem own_ne {W : World} {B : Nat} {e t : TypeId} {sz : Nat} {v : Value} {n : Nat} {xs : List Value} {j : Nat} {cs : Array Value} (h : W.ownsRow B e sz v n xs) (hp : W.heap[j]? = some (.cells cs t (0, 0))) (he : t ≠ e) : v.ownBlock ≠ some j := fun q => by
  rcases h.2 with ⟨rfl, _⟩ | ⟨g, cap, cur, rfl, hb, hg, _⟩
  · simp [Value.ownBlock] at q
  · have hgj : g = j := Option.some.inj q
    subst hgj
    rw [hp] at hg
    injection hg with hg
    injection hg with h1 h2
    exact he h2
theorem blk_beside {W W' : World} {B : Nat} {e t : TypeId} {sz : Nat} {v : Value} {n : Nat} {xs : List Value} {j : Nat} {cs : Array Value} (gr : W.grownBy W' v.ownBlock) (h : W.ownsRow B e sz v n xs) (he : t ≠ e) (hp : W.heap[j]? = some (.cells cs t (0, 0))) : W'.heap[j]? = some (.cells cs t (0, 0)) := blk_grown gr (own_ne h hp he) hp
/-- A variable of a program's type, before anything stands there: no part of a program lies in it. -/
def QZ (W : World) (Q : Nat) : Prop := ∀ o v, W.cell? ⟨Q, o, none⟩ = some v → (∃ a n c, v = .slice a n c) ∨ (o = 2 ∧ ∃ x, v = .int .i64 x)
theorem qz_of {W : World} {Q : Nat} {t : TypeId} {a b : Option Addr} {n c m d : Nat} {E : Int} (h : W.heap[Q]? = some (.cells #[.slice a n c, .slice b m d, .int .i64 E] t (0, 0))) : QZ W Q := fun o v hv => by
  rw [cell_of_row W Q o _ t (0, 0) h] at hv
  match o, hv with
  | 0, hv => simp at hv; exact .inl ⟨_, _, _, hv.symm⟩
  | 1, hv => simp at hv; exact .inl ⟨_, _, _, hv.symm⟩
  | 2, hv => simp at hv; exact .inr ⟨rfl, _, hv.symm⟩
  | o + 3, hv => simp at hv
theorem qz_put {W : World} {Q j : Nat} {v0 : Value} (hz : QZ W Q) (h0 : W.cell? ⟨Q, j, none⟩ = some v0) {u : Value} (hu : (∃ a n c, u = .slice a n c) ∨ (j = 2 ∧ ∃ x, u = .int .i64 x)) : QZ (W.setCell ⟨Q, j, none⟩ u) Q := fun o v hv => by
  by_cases e : o = j
  · subst e
    rw [World.cell?_setCell_same _ _ _ h0] at hv
    injection hv with hv
    subst hv
    exact hu
  · rw [World.cell?_setCell_other _ _ _ _ (fun q => e (by injection q with q1 q2; exact q2.symm))] at hv
    exact hz o v hv
section
variable {W X : World} {Q : Nat} (hz : QZ W Q) (hk : ∀ a v, a.block ≠ Q → W.cell? a = some v → X.cell? a = some v)
include hz hk
theorem qz_other {b o : Nat} {v : Value} (h : W.cell? ⟨b, o, none⟩ = some v) (h1 : ∀ a n c, v ≠ .slice a n c) (h2 : ∀ x, v ≠ .int .i64 x) : b ≠ Q := fun e => by
  subst e
  rcases hz o v h with ⟨a, n, c, e⟩ | ⟨-, x, e⟩
  · exact h1 _ _ _ e
  · exact h2 _ e
theorem qz_num {k : IntKind} (h8 : k ≠ .i64) {v : Value} {l : List Int} (h : LstA 1 (NumAt k W) (fun _ => True) v l) : LstA 1 (NumAt k X) (fun _ => True) v l :=
  LstA.map h (fun _ h => h) fun b o x _ _ hc => hk _ _ (qz_other hz hk hc (by simp) (fun x e => by injection e with e1; exact h8 e1)) hc
theorem qz_rels {v : Value} {l : List PRelM} (h : IsPRels (fun _ => True) W v l) : IsPRels (fun _ => True) X v l :=
  LstA.map h (fun _ h => h) fun b o x _ _ hc => by
    have hb : b ≠ Q := fun e => by
      subst e
      rcases hz _ _ hc.1 with ⟨a, n, c, h1⟩ | ⟨h1, -⟩
      · cases h1
      · rcases hz _ _ hc.2.1 with ⟨a, n, c, h2⟩ | ⟨h2, -⟩
        · cases h2
        · omega
    exact ⟨hk _ _ hb hc.1, hk _ _ hb hc.2.1, hk _ _ hb hc.2.2.1, hk _ _ hb hc.2.2.2⟩
theorem qz_funs {v : Value} {l : List PFuncM} (h : IsPFs (fun _ => True) W v l) : IsPFs (fun _ => True) X v l :=
  LstA.map h (fun _ h => h) fun b o x _ _ hc => by
    obtain ⟨vc, vr, h1, h2, h3, h4, h5, h6, h7⟩ := hc
    have hb : b ≠ Q := qz_other hz hk h1 (by simp) (by simp)
    exact ⟨vc, vr, hk _ _ hb h1, hk _ _ hb h2, hk _ _ hb h3, hk _ _ hb h4, hk _ _ hb h5, ⟨qz_num hz hk (by decide) h6.1, h6.2⟩, qz_rels hz hk h7⟩
theorem qz_dats {v : Value} {l : List PDataM} (h : IsPDs (fun _ => True) W v l) : IsPDs (fun _ => True) X v l :=
  LstA.map h (fun _ h => h) fun b o x _ _ hc => by
    obtain ⟨vc, vr, h1, h2, h3, h4, h5, h6, h7⟩ := hc
    have hb : b ≠ Q := qz_other hz hk h2 (by simp) (by simp)
    exact ⟨vc, vr, hk _ _ hb h1, hk _ _ hb h2, hk _ _ hb h3, hk _ _ hb h4, hk _ _ hb h5, ⟨qz_num hz hk (by decide) h6.1, h6.2⟩, qz_rels hz hk h7⟩
end
/-- What is known of the second answer. -/
def Ans (W : World) (l : List ObjM) (a : Option Addr) (n c : Nat) (b : Option Addr) (m d : Nat) (E x : Int) : Prop :=
  (resZ l).1 = x ∧ n ≤ maxLen ∧ m ≤ maxLen ∧ (x = 0 → IsPFs (fun _ => True) W (.slice a n c) (resZ l).2.funcs ∧ IsPDs (fun _ => True) W (.slice b m d) (resZ l).2.datas ∧ (resZ l).2.funcs.length = n ∧ (resZ l).2.datas.length = m ∧ (resZ l).2.entry = E)
theorem Ans.later {W X : World} {l : List ObjM} {a : Option Addr} {n c : Nat} {b : Option Addr} {m d : Nat} {E x : Int} (h : Ans W l a n c b m d E x) (hb : Below W.heap.size W X) : Ans X l a n c b m d E x :=
  ⟨h.1, h.2.1, h.2.2.1, fun e => by obtain ⟨q1, q2, q3⟩ := h.2.2.2 e; exact ⟨q1.keep (Stay.of_below hb), q2.keep (Stay.of_below hb), q3⟩⟩
theorem Ans.put {W X : World} {Q : Nat} {l : List ObjM} {a : Option Addr} {n c : Nat} {b : Option Addr} {m d : Nat} {E x : Int} (h : Ans W l a n c b m d E x) (hz : QZ W Q) (hk : ∀ a v, a.block ≠ Q → W.cell? a = some v → X.cell? a = some v) : Ans X l a n c b m d E x :=
  ⟨h.1, h.2.1, h.2.2.1, fun e => by obtain ⟨q1, q2, q3⟩ := h.2.2.2 e; exact ⟨qz_funs hz hk q1, qz_dats hz hk q2, q3⟩⟩
theorem set3_other {W : World} {Q : Nat} {u0 u1 u2 : Value} : ∀ a v, a.block ≠ Q → W.cell? a = some v → (((W.setCell ⟨Q, 0, none⟩ u0).setCell ⟨Q, 1, none⟩ u1).setCell ⟨Q, 2, none⟩ u2).cell? a = some v := fun a v ha h =>
  (World.cell?_setCell_other _ _ _ _ (fun e => ha (by rw [← e]))).trans ((World.cell?_setCell_other _ _ _ _ (fun e => ha (by rw [← e]))).trans ((World.cell?_setCell_other _ _ _ _ (fun e => ha (by rw [← e]))).trans h))
theorem few_more {l : List ObjM} (h : ∀ o ∈ l, fewO o) : ∀ o ∈ l ++ [moreO], fewO o := fun o ho => by
  rcases List.mem_append.1 ho with h1 | h1
  · exact h o h1
  · simp at h1; subst h1; exact more_few
theorem objs_two {w w7 W : World} {l : List ObjM} {L : List OC} {f d : Nat} (hR : ∀ (k : Nat) o, l[k]? = some o → ∃ x, L[k]? = some x ∧ OfO w o x) (hm : OfO w7 moreO (mC f d)) (hb : Below w7.heap.size w7 W) (hw : Below w.heap.size w w7) (hl : L.length = l.length) : ∀ (k : Nat) o, (l ++ [moreO])[k]? = some o → ∃ x, (L ++ [mC f d])[k]? = some x ∧ OfO W o x := fun k o hk => by
  rcases Nat.lt_or_ge k l.length with h | h
  · rw [List.getElem?_append_left h] at hk
    obtain ⟨x, hx, ho⟩ := hR k o hk
    exact ⟨x, by rw [List.getElem?_append_left (by omega)]; exact hx, ho.later (bnext hw hb)⟩
  · rw [List.getElem?_append_right h] at hk
    have h0 : k - l.length = 0 := by have := (List.getElem?_eq_some_iff.1 hk).1; simp at this; omega
    rw [h0] at hk
    simp at hk
    subst hk
    exact ⟨mC f d, by rw [List.getElem?_append_right (by omega), show k - L.length = 0 by omega]; rfl, hm.later hb⟩
/-- Where the second answer's program stands. -/
def MoreQ (l : List ObjM) (w7 wx : World) (Q : Nat) (a : Option Addr) (n c : Nat) (b : Option Addr) (m d : Nat) (E x : Int) : Prop :=
  XAt wx Q [.slice a n c, .slice b m d, .int .i64 E] ∧ w7.heap.size ≤ Q ∧ Q < wx.heap.size ∧ Below w7.heap.size w7 wx ∧ QZ wx Q ∧ Ans wx (l ++ [moreO]) a n c b m d E x
theorem moreq_late {l : List ObjM} {w7 wa : World} {a : Option Addr} {n c : Nat} {b : Option Addr} {m d : Nat} {E x : Int} (t : TypeId) (hb : Below w7.heap.size w7 wa) (ha : Ans wa (l ++ [moreO]) a n c b m d E x) : MoreQ l w7 (wa.alloc (.cells #[.slice a n c, .slice b m d, .int .i64 E] t)) wa.heap.size a n c b m d E x :=
  ⟨XAt.new _ _ _, hb.size, by simp, keep_alloc8 hb _, qz_of (t := t) (blk_top rfl), ha.later (keep_alloc8 (Below.refl _ _) _)⟩
theorem moreq_drew {l : List ObjM} {w7 wa : World} {Q : Nat} {a : Option Addr} {n c : Nat} {b : Option Addr} {m d : Nat} {E x : Int} (h : MoreQ l w7 wa Q a n c b m d E x) : MoreQ l w7 wa.drew Q a n c b m d E x :=
  ⟨h.1, h.2.1, h.2.2.1, keep_drew8 h.2.2.2.1, h.2.2.2.2.1, h.2.2.2.2.2.later (Below.refl wa.heap.size wa).drew⟩
theorem moreq_early {l : List ObjM} {w7 wa : World} {Q : Nat} {t : TypeId} {a : Option Addr} {n c : Nat} {b : Option Addr} {m d : Nat} {E x : Int} (hq : wa.heap[Q]? = some (.cells #[.slice none 0 0, .slice none 0 0, .int .i64 0] t (0, 0))) (hQ : w7.heap.size ≤ Q) (hb : Below w7.heap.size w7 wa) (ha : Ans wa (l ++ [moreO]) a n c b m d E x) :
    MoreQ l w7 (((wa.setCell ⟨Q, 0, none⟩ (.slice a n c)).setCell ⟨Q, 1, none⟩ (.slice b m d)).setCell ⟨Q, 2, none⟩ (.int .i64 E)) Q a n c b m d E x :=
  ⟨XAt.set3 (blk_xat hq), hQ, by have := (Array.getElem?_eq_some_iff.1 hq).1; simpa using this, ((hb.setCell hQ _).setCell hQ _).setCell hQ _,
    qz_put (qz_put (qz_put (qz_of hq) ((blk_xat hq).1 0 _ rfl) (.inl ⟨_, _, _, rfl⟩)) (((blk_xat hq).set 0 (by simp) _).1 1 _ rfl) (.inl ⟨_, _, _, rfl⟩)) ((((blk_xat hq).set 0 (by simp) _).set 1 (by simp) _).1 2 _ rfl) (.inr ⟨rfl, _, rfl⟩), ha.put (qz_of hq) set3_other⟩
/-- The two programs, the second one cut. -/
theorem ans_same {w4 W : World} {l : List ObjM} {pa pb qa qb : Option Addr} {pn pc pm pd qn qc qm qd : Nat} {pE qE : Int} (hp : Ans w4 l pa pn pc pb pm pd pE 0) (hq : Ans W (l ++ [moreO]) qa qn qc qb qm qd qE 0) (hl : l.length ≤ 14) :
    qn = pn + 2 ∧ qm = pm + 1 ∧ IsProg (fun _ => True) w4 (.agg #[.slice pa pn pc, .slice pb pm pd, .int .i64 pE]) (resZ l).2 ∧ IsProg (fun _ => True) W (.agg #[.slice qa pn qc, .slice qb pm qd, .int .i64 qE]) (resZ l).2 := by
  obtain ⟨h1, -, -, h2⟩ := hp
  obtain ⟨f1, d1, n1, m1, e1⟩ := h2 rfl
  obtain ⟨g1, -, -, g2⟩ := hq
  obtain ⟨f2, d2, n2, m2, e2⟩ := g2 rfl
  obtain ⟨a, b, c, hr⟩ := (res_more hl).2 h1
  rw [hr] at f2 d2 n2 m2 e2
  dsimp only at f2 d2 n2 m2 e2
  rw [List.length_append] at n2 m2
  have k1 := LstA.take f2 (k := pn) (by rw [List.length_append]; omega)
  have k2 := LstA.take d2 (k := pm) (by rw [List.length_append]; omega)
  rw [List.take_left' n1] at k1
  rw [List.take_left' m1] at k2
  exact ⟨by rw [← n2, n1]; rfl, by rw [← m2, m1]; rfl, ⟨_, _, by rw [e1], f1, d1⟩, ⟨_, _, by rw [e2], k1, k2⟩⟩
theorem may_len {n : Nat} (h : n ≤ maxLen) : (n : Int) ≤ 9223372036854775807 := by unfold maxLen at h; omega
theorem set2_other {W : World} {Q : Nat} {u0 u1 : Value} : ∀ a v, a.block ≠ Q → W.cell? a = some v → ((W.setCell ⟨Q, 0, none⟩ u0).setCell ⟨Q, 1, none⟩ u1).cell? a = some v := fun a v ha h =>
  (World.cell?_setCell_other _ _ _ _ (fun e => ha (by rw [← e]))).trans ((World.cell?_setCell_other _ _ _ _ (fun e => ha (by rw [← e]))).trans h)
theorem isProg_put {W X : World} {Q : Nat} (hz : QZ W Q) (hk : ∀ a v, a.block ≠ Q → W.cell? a = some v → X.cell? a = some v) {v : Value} {p : ProgM} (h : IsProg (fun _ => True) W v p) : IsProg (fun _ => True) X v p := by
  obtain ⟨vf, vd, e, hf, hd⟩ := h
  exact ⟨vf, vd, e, qz_funs hz hk hf, qz_dats hz hk hd⟩
theorem objI3 : (Tryz.prog.info? 46).map (fun i => (i.zero, i.size, i.bytes)) = some (some (.agg #[.slice none 0 0, .slice none 0 0, .slice none 0 0]), 3, 72) := by kernel_rfl
/-- Resolve's answer, whichever it is. -/
theorem ResPost2.open {l : List ObjM} {e : Ending} {w' : World} (h : ResPost2 l e w') : ∃ a n c b m d E x, e = .returned (.tuple #[.agg #[.slice a n c, .slice b m d, .int .i64 E], .int .i64 x]) ∧ (resZ l).1 = x ∧ n ≤ maxLen ∧ m ≤ maxLen ∧
    (x = 0 → IsPFs (fun _ => True) w' (.slice a n c) (resZ l).2.funcs ∧ IsPDs (fun _ => True) w' (.slice b m d) (resZ l).2.datas ∧ (resZ l).2.funcs.length = n ∧ (resZ l).2.datas.length = m ∧ (resZ l).2.entry = E) := by
  rcases h with ⟨p, a, n, c, b, m, d, hr, rfl, hf, hd, h1, h2⟩ | ⟨x, hr, hx, rfl⟩
  · refine ⟨a, n, c, b, m, d, p.entry, 0, rfl, by rw [hr], ?_, ?_, fun _ => ?_⟩
    · obtain ⟨a', c', -, hm, -⟩ := LstA.open hf; omega
    · obtain ⟨a', c', -, hm, -⟩ := LstA.open hd; omega
    · rw [hr]; exact ⟨hf, hd, h1, h2, rfl⟩
  · exact ⟨none, 0, 0, none, 0, 0, 0, x, rfl, by rw [hr], Nat.zero_le _, Nat.zero_le _, fun h => absurd h hx⟩
end Go.Proofs.YteakbpcmafdikaaGreatDoor
