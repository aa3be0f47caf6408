/- Slices of integers that a call has made: what they hold, and what the library's sort, Compact and DeleteFunc leave of them. -/
import Derived.Test.YtccfgnnfibblkaaShelf
import Derived.Test.YtccfgnnfibblkaaCalls
import Derived.Shelf.GgClosure.Gives
namespace Go.Proofs.Ytccfgnnfibblkaa
open Go.ChangeShapes Go.WideShapes Go.ChangeAt Go.RowKit Go.Sort Go.Shelf
set_option linter.unusedVariables false

abbrev encI : Int → Value := Value.int .i64
/-- v is a slice that holds just L, in a block from base on, or is empty. -/
def IsInts (w : World) (base : Nat) (v : Value) (L : List Int) : Prop :=
  ∃ a cap, v = .slice a L.length cap ∧ (L = [] ∨ ∃ g, a = some ⟨g, 0, none⟩ ∧ base ≤ g ∧ g < w.heap.size ∧ Holds encI w g 0 L.toArray)
theorem holds_later {w w' : World} {g : Nat} {L : Array Int} (h : Holds encI w g 0 L) (hb : Below w.heap.size w w') (hg : g < w.heap.size) : Holds encI w' g 0 L := fun j hj =>
  ⟨(hb.cell (p := ⟨g, 0 + j, none⟩) hg).trans (h j hj).1, (hb.frozen (p := ⟨g, 0 + j, none⟩) hg).trans (h j hj).2⟩
theorem IsInts.later {w w' : World} {base : Nat} {v : Value} {L : List Int} (h : IsInts w base v L) (hb : Below w.heap.size w w') : IsInts w' base v L := by
  obtain ⟨a, cap, e, h⟩ := h
  refine ⟨a, cap, e, ?_⟩
  rcases h with h | ⟨g, ea, h1, h2, h3⟩
  · exact .inl h
  · exact .inr ⟨g, ea, h1, Nat.lt_of_lt_of_le h2 hb.size, holds_later h3 hb h2⟩
theorem holds_head {w : World} {g : Nat} {L R : List Int} (h : Holds encI w g 0 (L ++ R).toArray) : Holds encI w g 0 L.toArray := by
  intro j hj
  have hj' : j < L.length := by simpa using hj
  have := h j (by simp; omega)
  have e : (L ++ R).toArray[j]! = L.toArray[j]! := by
    rw [getElem!_pos _ j (by simp; omega), getElem!_pos _ j hj]; simp [List.getElem_append_left hj']
  rw [e] at this; exact this
theorem below_put (w : World) (n g off : Nat) (d : Array Int) : Below g w (putRow encI (Sort.ahead w n) g off d) := by
  refine ⟨rfl, rfl, rfl, by simp, fun k hk => ?_⟩
  unfold putRow mapBlock
  simp only [Array.getElem?_modify]
  rw [if_neg (by omega)]; rfl
theorem below_grow (w : World) (os : Array Obj) (g : Nat) (hg : g ≤ w.heap.size) : Below g w (grow w os) :=
  ⟨rfl, rfl, rfl, by simp, fun k hk => heap_grow_old w os (by omega)⟩
/-- In order, each once, without the 0. -/
def risingL (zs : List Int) : List Int := (Lib.compact (zs.mergeSort fun x y => decide (x ≤ y))).filter fun x => !decide (x = 0)

theorem len_compact (zs : List Int) : (Lib.compact zs).length ≤ zs.length := by
  unfold Lib.compact Lib.compactUpTo
  rw [List.length_map]
  exact Nat.le_trans (List.length_filter_le _ _) (by simp)

theorem sort_c (w : World) (g cap : Nat) (zs : List Int) (hH : Holds encI w g 0 zs.toArray) (hg : g < w.heap.size) (hz : zs.length ≤ 1000) :
    Calls Try.prog 27 #[.slice (some ⟨g, 0, none⟩) zs.length cap] w fun e w' => e = .returned (.tuple #[]) ∧ Holds encI w' g 0 (zs.mergeSort fun x y => decide (x ≤ y)).toArray ∧ Below g w w' := by
  refine (Try.slices_Sort_int g 0 cap zs w hH hg (by omega)).mono ?_
  rintro e w' ⟨rfl, n, os, rfl⟩
  refine ⟨rfl, ?_, ?_⟩
  · refine holds_grow _ _ _ _ _ _ (by simpa using hg) ?_
    exact holds_putRow encI _ g 0 zs.toArray _ (holds_ahead encI w n g 0 _ hH) (by simp)
  · exact (below_put w n g 0 _).trans (below_grow _ _ _ (by simp; omega))
theorem compact_c (w : World) (g cap : Nat) (zs : List Int) (hH : Holds encI w g 0 zs.toArray) (hz : zs.length ≤ 1000) (hc : zs.length ≤ cap) :
    Calls Try.prog 29 #[.slice (some ⟨g, 0, none⟩) zs.length cap] w fun e w' => e = .returned (.slice (some ⟨g, 0, none⟩) (Lib.compact zs).length cap) ∧ Holds encI w' g 0 (Lib.compact zs).toArray ∧ Below g w w' := by
  refine (Try.slices_Compact_int g 0 cap zs w hH (by omega) hc).mono ?_
  rintro e w' ⟨rfl, q, rfl⟩
  have hl := len_compact zs
  exact ⟨rfl, holds_head (holds_putRow encI _ g 0 zs.toArray _ (holds_ahead encI w q g 0 _ hH) (by simp; omega)), below_put w q g 0 _⟩
theorem zero_gives (x : Int) (W : World) : FnGives Try.prog 30 #[] #[.int .i64 x] (.bool (decide (x = 0))) W := by
  show Calls Try.prog 30 #[.int .i64 x] W _
  go_enter Try.func30, Try.ntmps30
  go_wp2
  go_ret
  exact ⟨rfl, 0, rfl⟩
theorem delete_c (w : World) (g cap : Nat) (zs : List Int) (hH : Holds encI w g 0 zs.toArray) (hz : zs.length ≤ 1000) (hc : zs.length ≤ cap) :
    Calls Try.prog 28 #[.slice (some ⟨g, 0, none⟩) zs.length cap, .func (.func 30) #[] #[]] w fun e w' => e = .returned (.slice (some ⟨g, 0, none⟩) (zs.filter fun x => !decide (x = 0)).length cap) ∧ Holds encI w' g 0 (zs.filter fun x => !decide (x = 0)).toArray ∧ Below g w w' := by
  have eg : ∀ args w, (callFunc 30 args).run Try.prog w = .ok (.enter 30 args) w := enters_of Try.func30 (by kernel_rfl) rfl
  have h := Try.slices_DeleteFunc encI (fun _ => rfl) (fun x => decide (x = 0)) 30 #[] eg 0 Try.zeroValue3 g 0 cap zs.toArray w (fun W x _ => zero_gives x W) (fun n os dk x _ => zero_gives x _) hH (by simp; omega) (by simpa using hc)
  simp only [List.size_toArray] at h
  refine h.mono ?_
  rintro e w' ⟨rfl, q, rfl⟩
  have hl := List.length_filter_le (fun x : Int => !decide (x = 0)) zs
  exact ⟨rfl, holds_head (holds_putRow encI _ g 0 zs.toArray _ (holds_ahead encI w q g 0 _ hH) (by simp; omega)), below_put w q g 0 _⟩
theorem rising_any (w : World) (g cap : Nat) (zs : List Int) (hH : Holds encI w g 0 zs.toArray) (hg : g < w.heap.size) (hz : zs.length ≤ 1000) (hc : zs.length ≤ cap) :
    Calls Try.prog 25 #[.slice (some ⟨g, 0, none⟩) zs.length cap] w fun e w' => ∃ v, e = .returned v ∧ IsInts w' g v (risingL zs) ∧ Below g w w' := by
  have c1 := sort_c w g cap zs hH hg hz
  have hl1 : (zs.mergeSort fun x y => decide (x ≤ y)).length = zs.length := List.length_mergeSort _
  have HR : Hid (risingL zs = (Lib.compact (zs.mergeSort fun x y => decide (x ≤ y))).filter fun x => !decide (x = 0)) := rfl
  generalize (zs.mergeSort fun x y => decide (x ≤ y)) = ss at c1 hl1 HR
  have c2 : ∀ W, Holds encI W g 0 ss.toArray → _ := fun W hW => compact_c W g cap ss hW (by omega) (by omega)
  have hl2 := len_compact ss
  generalize Lib.compact ss = cs at c2 hl2 HR
  have c3 : ∀ W, Holds encI W g 0 cs.toArray → _ := fun W hW => delete_c W g cap cs hW (by omega) (by omega)
  generalize (cs.filter fun x => !decide (x = 0)) = ds at c3 HR
  have C2 : Hid (∀ W, Holds encI W g 0 ss.toArray → Calls Try.prog 29 #[.slice (some ⟨g, 0, none⟩) ss.length cap] W fun e w' => e = .returned (.slice (some ⟨g, 0, none⟩) cs.length cap) ∧ Holds encI w' g 0 cs.toArray ∧ Below g W w') := c2
  have C3 : Hid (∀ W, Holds encI W g 0 cs.toArray → Calls Try.prog 28 #[.slice (some ⟨g, 0, none⟩) cs.length cap, .func (.func 30) #[] #[]] W fun e w' => e = .returned (.slice (some ⟨g, 0, none⟩) ds.length cap) ∧ Holds encI w' g 0 ds.toArray ∧ Below g W w') := c3
  rw [← hl1] at c1 ⊢
  clear hH c2 c3 hl1 hl2
  go_enter Try.func25, Try.ntmps25
  go_wp2_with (first
    | (go_at_call 27; refine c1.mono ?_; rintro e w1 ⟨rfl, h1, b1⟩)
    | (go_at_call 29; refine (C2.out _ h1).mono ?_; rintro e w2 ⟨rfl, h2, b2⟩)
    | (go_at_call 28; refine (C3.out _ h2).mono ?_; rintro e w3 ⟨rfl, h3, b3⟩))
  go_ret
  refine ⟨_, rfl, ?_, (b1.trans b2).trans b3⟩
  rw [HR.out]
  exact ⟨_, cap, rfl, .inr ⟨g, rfl, Nat.le_refl _, by have := b1.size; have := b2.size; have := b3.size; omega, h3⟩⟩
theorem delete_none (w : World) (a : Option Addr) (cap : Nat) (f : Value) :
    Calls Try.prog 28 #[.slice a 0 cap, f] w fun e w' => e = .returned (.slice a 0 cap) ∧ w' = w := by
  go_enter Try.func28, Try.ntmps28
  go_wp2_with (go_at_call 33; refine (Try.slices_IndexFunc_empty (α := Int) a cap f _).mono ?_; rintro e w' ⟨rfl, rfl⟩)
  go_ret
  exact ⟨rfl, rfl⟩
theorem rising_none (w : World) (a : Option Addr) (cap : Nat) :
    Calls Try.prog 25 #[.slice a 0 cap] w fun e w' => e = .returned (.slice a 0 cap) ∧ w' = w := by
  go_enter Try.func25, Try.ntmps25
  go_wp2_with (first
    | (go_at_call 27; refine (Try.slices_Sort_int_none a cap _).mono ?_; rintro e w1 ⟨rfl, rfl⟩)
    | (go_at_call 29; refine (Try.slices_Compact_int_empty a cap _).mono ?_; rintro e w2 ⟨rfl, rfl⟩)
    | (go_at_call 28; refine (delete_none _ a cap _).mono ?_; rintro e w3 ⟨rfl, rfl⟩))
  go_ret
  exact ⟨rfl, rfl⟩
/-! ### One and two of them -/
theorem rising_nil : risingL [] = [] := by simp [risingL, Lib.compact, Lib.compactUpTo]
theorem rising_one (x : Int) : risingL [x] = if x = 0 then [] else [x] := by
  by_cases h : x = 0 <;> simp [risingL, Lib.compact, Lib.compactUpTo, Lib.keeps, h, List.range_succ]
theorem rising_two (x y : Int) : risingL [x, y] = if x = y then (if x = 0 then [] else [x]) else ([min x y, max x y].filter fun x => !decide (x = 0)) := by
  have e : ([x, y].mergeSort fun x y => decide (x ≤ y)) = if x ≤ y then [x, y] else [y, x] := by
    simp [List.mergeSort, List.MergeSort.Internal.splitInTwo, List.merge]
  have k : ∀ a b : Int, Lib.compact [a, b] = if a = b then [a] else [a, b] := by
    intro a b
    by_cases h : a = b
    · simp [Lib.compact, Lib.compactUpTo, Lib.keeps, h, List.range_succ]
    · simp [Lib.compact, Lib.compactUpTo, Lib.keeps, h, List.range_succ, Ne.symm h]
  unfold risingL
  rw [e]
  by_cases h : x = y
  · subst h; rw [if_pos (by omega), k, if_pos rfl, if_pos rfl]; by_cases g : x = 0 <;> simp [g]
  · rw [if_neg h]
    by_cases g : x ≤ y
    · rw [if_pos g, k, if_neg h, Int.min_eq_left g, Int.max_eq_right g]
    · rw [if_neg g, k, if_neg (Ne.symm h), Int.min_eq_right (by omega), Int.max_eq_left (by omega)]
end Go.Proofs.Ytccfgnnfibblkaa
