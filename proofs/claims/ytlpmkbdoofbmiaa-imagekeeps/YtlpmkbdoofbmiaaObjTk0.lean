/- What the code's scanner takes, told as what is read of bytes. -/
import Derived.Test.YtlpmkbdoofbmiaaScanTry
import Derived.Test.YtlpmkbdoofbmiaaObjGr
namespace Go.Proofs.Ytlpmkbdoofbmiaa
open Go.ChangeShapes Go.WideShapes Go.ChangeAt Go.RowKit
set_option linter.unusedVariables false
set_option linter.unusedSimpArgs false
theorem Hid.mk0 {P : Prop} (h : P) : Hid P := h
/-- The value is a scanner before these bytes; its own blocks are O. -/
def Sk (O : Nat → Prop) (w : World) (v : Value) (b : Bs) : Prop := (∃ f, ScO O w v b.length f ∧ ∀ i, i < b.length → gF b i = f i) ∧ Byt b
theorem Sk.later {O : Nat → Prop} {w w' : World} {v : Value} {b : Bs} (h : Sk O w v b) (hb : Below w.heap.size w w') : Sk O w' v b := by
  obtain ⟨⟨f, h1, h2⟩, h3⟩ := h
  exact ⟨⟨f, h1.later hb, h2⟩, h3⟩
theorem Sk.keep {O : Nat → Prop} {w w' : World} {v : Value} {b : Bs} (h : Sk O w v b) (hs : w.heap.size ≤ w'.heap.size) (hk : ∀ k, k < w.heap.size → O k → w'.heap[k]? = w.heap[k]?) : Sk O w' v b := by
  obtain ⟨⟨f, h1, h2⟩, h3⟩ := h
  exact ⟨⟨f, h1.keep hs hk, h2⟩, h3⟩
theorem Sk.lt {O : Nat → Prop} {w : World} {v : Value} {b : Bs} (h : Sk O w v b) : ∀ k, O k → k < w.heap.size := by
  obtain ⟨⟨f, h1, h2⟩, h3⟩ := h
  exact h1.lt
theorem Sk.ptr {O : Nat → Prop} {w : World} {v : Value} {b : Bs} (h : Sk O w v b) : ∃ g, v = .pointer (some ⟨g, 0, none⟩) ∧ O g := by
  obtain ⟨⟨f, h1, h2⟩, h3⟩ := h
  exact h1.ptr
theorem take_list {b : Bs} {f : Nat → Int} {k : Nat} (hk : k ≤ b.length) (hf : ∀ i, i < b.length → gF b i = f i) : b.take k = (List.range k).map f := by
  refine List.ext_getElem? fun i => ?_
  by_cases hi : i < k
  · rw [List.getElem?_take_of_lt hi, gF_get (by omega : i < b.length), hf i (by omega)]
    simp [hi]
  · rw [List.getElem?_eq_none (by rw [List.length_take]; omega), List.getElem?_eq_none (by rw [List.length_map, List.length_range]; omega)]
theorem Sk.drop {O : Nat → Prop} {w : World} {v : Value} {b : Bs} {f : Nat → Int} {k : Nat} (hs : ScO O w v (b.length - k) (fun i => f (i + k))) (hf : ∀ i, i < b.length → gF b i = f i) (hk : k ≤ b.length) (hb : Byt b) : Sk O w v (b.drop k) :=
  ⟨⟨fun i => f (i + k), by rw [List.length_drop]; exact hs, fun i hi => by rw [List.length_drop] at hi; rw [gF_drop]; exact hf _ (by omega)⟩, fun x hx => hb x (List.mem_of_mem_drop hx)⟩
/-- Something was taken, as it is read of bytes; or the error was met. -/
def Took {α : Type} (O : Nat → Prop) (w : World) (v : Value) (r : α × St) (hold : α → World → Value → Prop) (e : Ending) (w' : World) : Prop :=
  ((∃ x b u, Hid (r = (x, .good b)) ∧ e = .returned u ∧ hold x w' u ∧ Sk O w' v b) ∨ (∃ x er, Hid (r = (x, .bad er)) ∧ e = .panicked [{ v := .iface 28 (.int .i64 er), recovered := false }])) ∧ Apart O w w'
theorem bind_bad {α β : Type} {f : Rdr α} {g : α → Rdr β} (hg : ∀ x, Keeps (g x)) {b : Bs} {x : α} {e : Int} (h : f (.good b) = (x, .bad e)) : ∃ y, bindR f g (.good b) = (y, .bad e) := by
  unfold bindR
  rw [h]
  exact ⟨_, Prod.ext rfl (hg x e)⟩
theorem take_good {b : Bs} {k : Nat} (h : k ≤ b.length) : takeR k (.good b) = (b.take k, .good (b.drop k)) := by unfold takeR; dsimp only; rw [if_pos h]
theorem take_short {b : Bs} {k : Nat} (h : b.length < k) : takeR k (.good b) = (List.replicate k 0, .bad 2) := by unfold takeR; dsimp only; rw [if_neg (by omega)]
theorem num_good {b : Bs} {k : Nat} (h : k ≤ b.length) : numR k (.good b) = (sumL (b.take k), .good (b.drop k)) := by
  unfold numR; rw [bind_fwd (take_good h)]; rfl
theorem num_short {b : Bs} {k : Nat} (h : b.length < k) : ∃ y, numR k (.good b) = (y, .bad 2) := bind_bad (fun _ => keeps_pure _) (take_short h)
theorem must_yes {b : Bs} {c : Bool} (h : c = true) : mustR c (.good b) = ((), .good b) := must_fwd h b
theorem must_no {b : Bs} {c : Bool} (h : c = false) : mustR c (.good b) = ((), .bad 4) := by unfold mustR; simp [h]
section
variable {O : Nat → Prop} {w : World} {v : Value} {b : Bs}
theorem sk_num (h : Sk O w v b) (k : Nat) (k4 : k ≤ 4) :
    Calls Try.prog 39 #[v, .int .i64 k] w (Took O w v (numR k (.good b)) fun x _ u => u = .int .i64 x) := by
  obtain ⟨⟨f, h1, h2⟩, h3⟩ := h
  refine (number_k h1 k k4).mono ?_
  rintro e w' ⟨⟨hk, rfl⟩ | ⟨hk, rfl, hs⟩, hA⟩
  · obtain ⟨y, hy⟩ := num_short (b := b) (k := k) (by omega)
    exact ⟨.inr ⟨y, 2, hy, rfl⟩, hA⟩
  · refine ⟨.inl ⟨_, _, _, num_good hk, rfl, ?_, Sk.drop hs h2 hk h3⟩, hA⟩
    rw [take_list hk h2, sumL_F]
theorem sk_must (h : Sk O w v b) (c : Bool) :
    Calls Try.prog 31 #[v, .bool c] w (Took O w v (mustR c (.good b)) fun _ _ u => u = .tuple #[]) := by
  obtain ⟨⟨f, h1, h2⟩, h3⟩ := h
  refine (must_so h1 c).mono ?_
  rintro e w' ⟨⟨rfl, rfl⟩ | ⟨rfl, rfl⟩, hB⟩
  · exact ⟨.inl ⟨(), b, _, must_yes rfl, rfl, rfl, ⟨⟨f, h1.later hB, h2⟩, h3⟩⟩, Apart.of_below hB⟩
  · exact ⟨.inr ⟨(), 4, must_no rfl, rfl⟩, Apart.of_below hB⟩
theorem sk_take (h : Sk O w v b) (k : Nat) :
    Calls Try.prog 38 #[v, .int .i64 k] w (Took O w v (takeR k (.good b)) fun x w' u => ∃ a c, u = .slice a k c ∧ x.length = k ∧ Head a k c ∧ Bytes w' a k (gF x)) := by
  obtain ⟨⟨f, h1, h2⟩, h3⟩ := h
  refine (take_so h1 k (by omega)).mono ?_
  rintro e w' ⟨⟨hk, rfl⟩ | ⟨hk, a, c, rfl, hh, hb, hs⟩, hA⟩
  · exact ⟨.inr ⟨_, 2, take_short (by omega), rfl⟩, hA⟩
  · rw [Int.toNat_natCast] at hh hb hs ⊢
    have hk' : k ≤ b.length := by omega
    refine ⟨.inl ⟨_, _, _, take_good hk', rfl, ⟨a, c, rfl, by rw [List.length_take]; omega, hh, ?_⟩, Sk.drop hs h2 hk' h3⟩, hA⟩
    have hby : Byt (b.take k) := fun x hx => h3 x (List.mem_of_mem_take hx)
    refine ⟨gF_byt hby, hb.2.imp id fun ⟨g, off, e, hc⟩ => ⟨g, off, e, fun i hi => ?_⟩⟩
    rw [gF_take hi, h2 i (by omega)]
    exact hc i hi
theorem sk_bytes (h : Sk O w v b) (k : Nat) (hk : k ≤ 70000) :
    Calls Try.prog 32 #[v, .int .i64 k] w (Took O w v (takeR k (.good b)) fun x w' u => ∃ a c, u = .slice a k c ∧ x.length = k ∧ Byt x ∧ w'.ownsRow w.heap.size 5 1 (.slice a k c) k (x.map fun z => .int .u8 z)) := by
  have TK : Hid (Calls Try.prog 38 #[v, .int .i64 k] w (Took O w v (takeR k (.good b)) fun x w' u => ∃ a c, u = .slice a k c ∧ x.length = k ∧ Head a k c ∧ Bytes w' a k (gF x))) := sk_take h k
  have BT : Hid (∀ x b', takeR k (.good b) = (x, .good b') → Byt x) := fun x b' e => by
    have := take_byt (n := k) (s := .good b) (fun b'' e => by cases e; exact h.2)
    rwa [e] at this
  obtain ⟨g, rfl, hg⟩ := h.ptr
  clear h
  go_enter Try.func32, Try.ntmps32
  go_wp2_with (first
    | (go_at_call 38; refine TK.out.mono ?_; rintro e w1 ⟨⟨x, b1, u, hr, rfl, ⟨a1, c1, rfl, hx, hh1, hb1⟩, hS⟩ | ⟨x, er, hr, rfl⟩, hA1⟩)
    | (go_at_call 37; refine (clone_own _ a1 k c1 (gF x) (by omega) hh1 hb1).mono ?_; rintro e w2 ⟨a2, c2, rfl, o2, hb2⟩))
  · go_ret
    refine ⟨.inl ⟨x, b1, _, hr, rfl, ⟨a2, c2, rfl, hx, BT.out _ _ hr.out, ?_⟩, hS.later hb2⟩, hA1.trans (Apart.of_below (O := fun _ => False) hb2) (fun _ h => h.elim)⟩
    have o3 := own_mono o2 hA1.size
    subst hx
    rwa [cellsK_map] at o3
  · exact ⟨rfl, .inr ⟨x, er, hr, rfl⟩, hA1⟩
end
end Go.Proofs.Ytlpmkbdoofbmiaa
