/- What the code's scanner takes, told as what is read of bytes. Is a number within bounds? -/
import Derived.Test.YtnejpldbokodaaaDoorScanTry
import Derived.Test.YtnejpldbokodaaaDoorObjGr
namespace Go.Proofs.YtnejpldbokodaaaDoor
open Go.ChangeShapes Go.WideShapes Go.ChangeAt Go.RowKit
set_option linter.unusedVariables false
set_option linter.unusedSimpArgs false
theorem Hid.mk0 {P : Prop} (h : P) : Hid P := h
/-- The value is a scanner before these bytes; its own blocks are O. -/
def Sk (O : Nat → Prop) (w : World) (v : Value) (b : Bs) : Prop := (∃ f, ScO O w v b.length f ∧ ∀ i, i < b.length → gF b i = f i) ∧ Byt b
theorem Sk.later {O : Nat → Prop} {w w' : World} {v : Value} {b : Bs} (h : Sk O w v b) (hb : Below w.heap.size w w') : Sk O w' v b := by
  obtain ⟨⟨f, h1, h2⟩, h3⟩ := h
  exact ⟨⟨f, h1.later hb, h2⟩, h3⟩
theorem Sk.keep {O : Nat → Prop} {w w' : World} {v : Value} {b : Bs} (h : Sk O w v b) (hs : w.heap.size ≤ w'.heap.size) (hk : ∀ k, k < w.heap.size → O k → w'.heap[k]? = w.heap[k]?) : Sk O w' v b := by
  obtain ⟨⟨f, h1, h2⟩, h3⟩ := h
  exact ⟨⟨f, h1.keep hs hk, h2⟩, h3⟩
theorem Sk.lt {O : Nat → Prop} {w : World} {v : Value} {b : Bs} (h : Sk O w v b) : ∀ k, O k → k < w.heap.size := by
  obtain ⟨⟨f, h1, h2⟩, h3⟩ := h
  exact h1.lt
theorem Sk.ptr {O : Nat → Prop} {w : World} {v : Value} {b : Bs} (h : Sk O w v b) : ∃ g, v = .pointer (some ⟨g, 0, none⟩) ∧ O g := by
  obtain ⟨⟨f, h1, h2⟩, h3⟩ := h
  exact h1.ptr
theorem take_list {b : Bs} {f : Nat → Int} {k : Nat} (hk : k ≤ b.length) (hf : ∀ i, i < b.length → gF b i = f i) : b.take k = (List.range k).map f := by
  refine List.ext_getElem? fun i => ?_
  by_cases hi : i < k
  · rw [List.getElem?_take_of_lt hi, gF_get (by omega : i < b.length), hf i (by omega)]
    simp [hi]
  · rw [List.getElem?_eq_none (by rw [List.length_take]; omega), List.getElem?_eq_none (by rw [List.length_map, List.length_range]; omega)]
theorem Sk.drop {O : Nat → Prop} {w : World} {v : Value} {b : Bs} {f : Nat → Int} {k : Nat} (hs : ScO O w v (b.length - k) (fun i => f (i + k))) (hf : ∀ i, i < b.length → gF b i = f i) (hk : k ≤ b.length) (hb : Byt b) : Sk O w v (b.drop k) :=
  ⟨⟨fun i => f (i + k), by rw [List.length_drop]; exact hs, fun i hi => by rw [List.length_drop] at hi; rw [gF_drop]; exact hf _ (by omega)⟩, fun x hx => hb x (List.mem_of_mem_drop hx)⟩
/-- Something was taken, as it is read of bytes; or the error was met. -/
def Took {α : Type} (O : Nat → Prop) (w : World) (v : Value) (r : α × St) (hold : α → World → Value → Prop) (e : Ending) (w' : World) : Prop :=
  ((∃ x b u, Hid (r = (x, .good b)) ∧ e = .returned u ∧ hold x w' u ∧ Sk O w' v b) ∨ (∃ x er, Hid (r = (x, .bad er)) ∧ e = .panicked [{ v := .iface 27 (.int .i64 er), recovered := false }])) ∧ Apart O w w'
theorem bind_bad {α β : Type} {f : Rdr α} {g : α → Rdr β} (hg : ∀ x, Keeps (g x)) {b : Bs} {x : α} {e : Int} (h : f (.good b) = (x, .bad e)) : ∃ y, bindR f g (.good b) = (y, .bad e) := by
  unfold bindR
  rw [h]
  exact ⟨_, Prod.ext rfl (hg x e)⟩
theorem take_good {b : Bs} {k : Nat} (h : k ≤ b.length) : takeR k (.good b) = (b.take k, .good (b.drop k)) := by unfold takeR; dsimp only; rw [if_pos h]
theorem take_short {b : Bs} {k : Nat} (h : b.length < k) : takeR k (.good b) = (List.replicate k 0, .bad 2) := by unfold takeR; dsimp only; rw [if_neg (by omega)]
theorem num_good {b : Bs} {k : Nat} (h : k ≤ b.length) : numR k (.good b) = (sumL (b.take k), .good (b.drop k)) := by
  unfold numR; rw [bind_fwd (take_good h)]; rfl
theorem num_short {b : Bs} {k : Nat} (h : b.length < k) : ∃ y, numR k (.good b) = (y, .bad 2) := bind_bad (fun _ => keeps_pure _) (take_short h)
theorem must_yes {b : Bs} {c : Bool} (h : c = true) : mustR c (.good b) = ((), .good b) := must_fwd h b
theorem must_no {b : Bs} {c : Bool} (h : c = false) : mustR c (.good b) = ((), .bad 4) := by unfold mustR; simp [h]
section
variable {O : Nat → Prop} {w : World} {v : Value} {b : Bs}
end
open Go.ChangeShapes Go.WideShapes Go.ChangeAt Go.RowKit
set_option linter.unusedVariables false
set_option linter.unusedSimpArgs false
theorem within_any (n a b : Int) (w : World) : Calls Tryd.prog 70 #[.int .i64 n, .int .i64 a, .int .i64 b] w fun e w' => e = .returned (.bool (decide (a ≤ n ∧ n ≤ b))) ∧ w' = w := by
  by_cases h1 : a ≤ n
  · by_cases h2 : n ≤ b
    · have e : decide (a ≤ n ∧ n ≤ b) = true := decide_eq_true ⟨h1, h2⟩
      rw [e]
      clear e
      go_enter Tryd.func70, Tryd.ntmps70
      go_wp2
      go_ret
      exact ⟨rfl, rfl⟩
    · have e : decide (a ≤ n ∧ n ≤ b) = false := decide_eq_false fun h => h2 h.2
      rw [e]
      have h2' : b < n := by omega
      clear e h2
      go_enter Tryd.func70, Tryd.ntmps70
      go_wp2
      go_ret
      exact ⟨congrArg (fun c => Ending.returned (.bool c)) (decide_eq_false (by omega)), rfl⟩
  · have e : decide (a ≤ n ∧ n ≤ b) = false := decide_eq_false fun h => h1 h.1
    rw [e]
    have h1' : n < a := by omega
    clear e h1
    go_enter Tryd.func70, Tryd.ntmps70
    go_wp2
    go_ret
    exact ⟨rfl, rfl⟩
theorem rightbind_any (n : Int) (w : World) : Calls Tryd.prog 67 #[.int .i64 n] w fun e w' => e = .returned (.bool (decide (1 ≤ n ∧ n ≤ 255))) ∧ w' = w := by
  have WI : Hid (∀ W, Calls Tryd.prog 70 #[.int .i64 n, .int .i64 1, .int .i64 255] W fun e w' => e = .returned (.bool (decide (1 ≤ n ∧ n ≤ 255))) ∧ w' = W) := fun W => within_any n 1 255 W
  generalize decide (1 ≤ n ∧ n ≤ 255) = c at WI ⊢
  go_enter Tryd.func67, Tryd.ntmps67
  go_wp2_with (go_at_call 70; refine (WI.out _).mono ?_; rintro e w1 ⟨rfl, rfl⟩)
  go_ret
  exact ⟨rfl, rfl⟩
theorem rightadd_any (n : Int) (w : World) : Calls Tryd.prog 89 #[.int .i64 n] w fun e w' => e = .returned (.bool (decide (-1048576 ≤ n ∧ n ≤ 1048576))) ∧ w' = w := by
  have WI : Hid (∀ W, Calls Tryd.prog 70 #[.int .i64 n, .int .i64 (-1048576), .int .i64 1048576] W fun e w' => e = .returned (.bool (decide (-1048576 ≤ n ∧ n ≤ 1048576))) ∧ w' = W) := fun W => within_any n _ _ W
  generalize decide (-1048576 ≤ n ∧ n ≤ 1048576) = c at WI ⊢
  go_enter Tryd.func89, Tryd.ntmps89
  go_wp2_with (go_at_call 70; refine (WI.out _).mono ?_; rintro e w1 ⟨rfl, rfl⟩)
  go_ret
  exact ⟨rfl, rfl⟩
end Go.Proofs.YtnejpldbokodaaaDoor
