/- Relocations, taken by the document's reader. -/
import Derived.Test.YtlpmkbdoofbmiaaObjRd2
import Derived.Test.YtlpmkbdoofbmiaaObjOwn
namespace Go.Proofs.Ytlpmkbdoofbmiaa
open Go.ChangeShapes Go.WideShapes Go.ChangeAt Go.RowKit
set_option linter.unusedVariables false
set_option linter.unusedSimpArgs false
/-- What holds of blocks that are neither the reader's nor X. -/
def Stable (g X : Nat) (K : World → Prop) : Prop := ∀ W W', K W → W.heap.size ≤ W'.heap.size → (∀ k, k < W.heap.size → k ≠ g → k ≠ X → W'.heap[k]? = W.heap[k]?) → K W'
/-- Within a round: the reader, the new block X, and what else there is. -/
structure Lp (B Z : Nat) (w0 : World) (g X : Nat) (K : World → Prop) (s : St) (cs : List Value) (W : World) : Prop where
  rd : Rd B Z W g s
  xa : XAt W X cs
  k : K W
  ap : Apart (G1 g) w0 W
  lt : X < W.heap.size
  hx : B ≤ X ∧ w0.heap.size ≤ X
theorem Lp.call {B Z : Nat} {w0 : World} {g X : Nat} {K : World → Prop} {s s' : St} {cs : List Value} {W W' : World} (h : Lp B Z w0 g X K s cs W) (HK : Stable g X K) (hr : Rd B Z W' g s') (ha : Apart (G1 g) W W') : Lp B Z w0 g X K s' cs W' := by
  have hg := h.rd.base.1
  have hX := h.hx.1
  exact ⟨hr, h.xa.apart h.lt ha (by show ¬ X = g; omega), HK W W' h.k ha.size fun k h1 h2 _ => ha.block k h1 h2, h.ap.same ha, Nat.lt_of_lt_of_le h.lt ha.size, h.hx⟩
theorem Lp.set {B Z : Nat} {w0 : World} {g X : Nat} {K : World → Prop} {s : St} {cs : List Value} {W : World} (h : Lp B Z w0 g X K s cs W) (HK : Stable g X K) (i : Nat) (hi : i < cs.length) (v : Value) : Lp B Z w0 g X K s (cs.set i v) (W.setCell ⟨X, i, none⟩ v) := by
  have lo : Below X W (W.setCell ⟨X, i, none⟩ v) := low_set v (Nat.le_refl _)
  refine ⟨h.rd.low (low_set v h.hx.1), h.xa.set i hi v, HK W _ h.k lo.size fun k h1 h2 h3 => Below.heap_setCell _ _ _ _ (by simpa using h3), ?_, Nat.lt_of_lt_of_le h.lt lo.size, h.hx⟩
  exact ⟨h.ap.os, h.ap.tape, h.ap.output, Nat.le_trans h.ap.size lo.size, fun k h1 h2 => (lo.block k (Nat.lt_of_lt_of_le h1 h.hx.2)).trans (h.ap.block k h1 h2)⟩
theorem Lp.later {B Z : Nat} {w0 : World} {g X : Nat} {K : World → Prop} {s : St} {cs : List Value} {W W' : World} (h : Lp B Z w0 g X K s cs W) (HK : Stable g X K) (hb : Below W.heap.size W W') : Lp B Z w0 g X K s cs W' :=
  h.call HK (h.rd.later hb) (Apart.of_below hb)
theorem own_lo {w w' : World} {base : Nat} {e : TypeId} {size : Nat} {v : Value} {n : Nat} {xs : List Value} (h : w.ownsRow base e size v n xs) (hk : ∀ k, k < w.heap.size → v.ownBlock = some k → w'.heap[k]? = w.heap[k]?) : w'.ownsRow base e size v n xs := by
  refine ⟨h.1, h.2.imp id fun ⟨g, cap, cur, h1, h2, h3, h4⟩ => ⟨g, cap, cur, h1, h2, ?_, h4⟩⟩
  have hl : g < w.heap.size := by
    rcases Nat.lt_or_ge g w.heap.size with h | h
    · exact h
    · rw [Array.getElem?_eq_none h] at h3; cases h3
  rw [hk g hl (by rw [h1]; rfl)]; exact h3
theorem countR_bd {m : Nat} {s : St} (h : ∀ b, s = .good b → Byt b) : 0 ≤ (countR m s).1 ∧ (countR m s).1 ≤ 65535 := by
  have hn := numR_bd (n := 2) h
  rw [p256_2] at hn
  have ec : (countR m s).1 = (match (mustR (decide ((numR 2 s).1 ≤ m)) (numR 2 s).2).2 with
    | .good b => ((numR 2 s).1, St.good b)
    | .bad e => ((0 : Int), St.bad e)).1 := rfl
  rw [ec]
  split
  · show 0 ≤ (numR 2 s).1 ∧ (numR 2 s).1 ≤ 65535
    omega
  · exact ⟨Int.le_refl _, by show (0 : Int) ≤ 65535; decide⟩
theorem times_bad {α : Type} (f : Rdr α) (n : Nat) (e : Int) : timesR f n (.bad e) = ([], .bad e) := by cases n <;> rfl
theorem times_good {α : Type} (f : Rdr α) (n : Nat) (b : Bs) : timesR f (n + 1) (.good b) = ((f (.good b)).1 :: (timesR f n (f (.good b)).2).1, (timesR f n (f (.good b)).2).2) := rfl
theorem own_more {α : Type} (cells : α → List Value) {w : World} {base : Nat} {e : TypeId} {sz : Nat} {a : Option Addr} {c : Nat} {l : List α} {x : α} (h : w.ownsRow base e sz (.slice a (l.length + 1) c) (l.length + 1) (l.flatMap cells ++ cells x)) :
    w.ownsRow base e sz (.slice a (l.length + 1) c) (l ++ [x]).length ((l ++ [x]).flatMap cells) := by
  rw [List.length_append, List.flatMap_append, List.flatMap_singleton]
  exact h
theorem names_more {l : List RelM} {x : RelM} (h : ∀ r ∈ l, r.name.size ≤ 255) (hx : x.name.size ≤ 255) : ∀ r ∈ l ++ [x], r.name.size ≤ 255 := fun r hr => by
  rcases List.mem_append.mp hr with h1 | h1
  · exact h r h1
  · rw [List.mem_singleton] at h1; subst h1; exact hx
theorem times_more {α : Type} {f : Rdr α} {N k : Nat} {s1 t : St} {l : List α} {b : Bs} {x : α} (h : timesR f N s1 = (l ++ (timesR f (N - k) (.good b)).1, (timesR f (N - k) (.good b)).2)) (hx : f (.good b) = (x, t)) (hk : k < N) :
    timesR f N s1 = ((l ++ [x]) ++ (timesR f (N - (k + 1)) t).1, (timesR f (N - (k + 1)) t).2) := by
  rw [h, show N - k = (N - (k + 1)) + 1 from by omega, times_good, hx, List.append_assoc]
  rfl
theorem apart_low {O : Nat → Prop} {w w1 w2 : World} (h : Apart O w w1) (hb : Below w.heap.size w1 w2) : Apart O w w2 :=
  ⟨hb.os.trans h.os, hb.tape.trans h.tape, hb.output.trans h.output, Nat.le_trans h.size hb.size, fun k h1 h2 => (hb.block k h1).trans (h.block k h1 h2)⟩
/-- A literal's cells, as append reads them. -/
theorem news_new (w : World) (cs : Array Value) (t : TypeId) (news : List Value) (h : cs.toList = news) : ∀ ad, some (⟨w.heap.size, 0, none⟩ : Addr) = some ad → ∀ j u, news[j]? = some u → (w.alloc (.cells cs t)).cell? (ad.add j) = some u := by
  intro ad e j u hu
  cases e
  rw [show (⟨w.heap.size, 0, none⟩ : Addr).add j = ⟨w.heap.size, j, none⟩ from by cases j <;> simp [Addr.add]]
  exact new_cell' w cs t j u (by rw [← Array.getElem?_toList, h]; exact hu)
theorem own_oct {w : World} {base : Nat} {e : TypeId} {size : Nat} {v : Value} {n : Nat} {xs : List Value} (h : w.ownsRow base e size v n xs) : ∀ q, v.ownBlock = some q → base ≤ q ∧ q < w.heap.size := fun q hq => h.lt q hq
end Go.Proofs.Ytlpmkbdoofbmiaa
