/- When two rows of numbers, two arrays of registers, are alike: exactly. -/
import Derived.Test.YtnpejnjigaalfaaDoorFrame
import Derived.Test.YtnpejnjigaalfaaDoorCalls
import Derived.ChangeKeysEq
import Derived.WalkSmall
import Derived.Deep.QuietTactic
import Derived.BigQuiet
namespace Go.Proofs.YtnpejnjigaalfaaDoor
open Go.ChangeShapes Go.WideShapes Go.ChangeAt Go.RowKit
set_option linter.unusedVariables false

/-- The first n numbers of f and g are alike. -/
def eqB (n m : Nat) (f g : Nat → Int) : Bool := decide (n = m ∧ ∀ i, i < n → f i = g i)
/-- The 16 registers are alike. -/
def regsB (r q : Nat → Int) : Bool := (List.range 16).all fun j => r j == q j
/-- 16 words, as an array's cells. -/
def regsV (r : Nat → Int) : Array Value := #[.int .u32 (r 0), .int .u32 (r 1), .int .u32 (r 2), .int .u32 (r 3), .int .u32 (r 4), .int .u32 (r 5), .int .u32 (r 6), .int .u32 (r 7), .int .u32 (r 8), .int .u32 (r 9), .int .u32 (r 10), .int .u32 (r 11), .int .u32 (r 12), .int .u32 (r 13), .int .u32 (r 14), .int .u32 (r 15)]
theorem regs_info : (Tryd.prog.info? 28).isSome = true := by kernel_rfl
theorem regs_part (r : Nat → Int) (w : World) (j : Nat) (hj : j < 16) : (part 28 (regsV r) (j * 1)).run Tryd.prog w = .ok (.int .u32 (r j)) w := by
  rcases (by omega : j = 0 ∨ j = 1 ∨ j = 2 ∨ j = 3 ∨ j = 4 ∨ j = 5 ∨ j = 6 ∨ j = 7 ∨ j = 8 ∨ j = 9 ∨ j = 10 ∨ j = 11 ∨ j = 12 ∨ j = 13 ∨ j = 14 ∨ j = 15) with rfl | rfl | rfl | rfl | rfl | rfl | rfl | rfl | rfl | rfl | rfl | rfl | rfl | rfl | rfl | rfl <;> kernel_rfl
theorem regs_items (r q : Nat → Int) (d : Nat) : ∀ (js : List Nat) (w : World), (∀ j ∈ js, j < 16) → (Op.eqItems (d + 1) 28 1 (regsV r) (regsV q) js).run Tryd.prog w = .ok (js.all fun j => r j == q j) w
  | [], w, _ => by simp [Op.eqItems, go_sem]
  | j :: js, w, h => by
    have hj := h j (by simp)
    have ih := regs_items r q d js w (fun i hi => h i (by simp [hi]))
    simp only [Op.eqItems, Sem.run_bind, regs_part r w j hj, regs_part q w j hj, Result.andThen_ok]
    have he : (Op.equalIn (d + 1) 28 (.int .u32 (r j)) (.int .u32 (q j))).run Tryd.prog w = .ok (r j == q j) w := by
      simp [Op.equalIn, go_sem]
    rw [he]
    simp only [Result.andThen_ok, List.all_cons]
    cases hq : (r j == q j)
    · simp [go_sem]
    · simpa using ih
theorem run_eql_regs (w : World) (r q : Nat → Int) : (binOp .eql 32 (.agg (regsV r)) (.agg (regsV q))).run Tryd.prog w = .ok (.bool (regsB r q)) w := by
  obtain ⟨i, hi⟩ := Option.isSome_iff_exists.1 regs_info
  rw [run_eql_struct, run_equalIn_array w 9999 _ _ Tryd.underlying32 hi, s26, regs_items r q 9998 (List.range 16) w (fun j hj => by simpa using hj)]
  rfl
theorem bytes_eq (w : World) (a1 a2 : Option Addr) (n m c1 c2 : Nat) (f g : Nat → Int) (hn : n ≤ 9223372036854775807) (hm : m ≤ 9223372036854775807) (h1 : Bytes w a1 n f) (h2 : Bytes w a2 m g) :
    Calls Tryd.prog 14 #[.slice a1 n c1, .slice a2 m c2] w fun e w' => e = .returned (.bool (eqB n m f g)) ∧ Below w.heap.size w w' := by
  by_cases hnm : n = m
  rotate_left
  · have e : eqB n m f g = false := by unfold eqB; exact decide_eq_false (fun h => hnm h.1)
    rw [e]
    have hq : ((n : Int) != (m : Int)) = true := by simp; omega
    have hq2 : (n != m) = true := by simp [hnm]
    clear h1 h2 e
    go_enter Tryd.func14, Tryd.ntmps14
    go_wp2
    go_ret
    exact ⟨rfl, Below.refl _ _⟩
  subst hnm
  have H1 : Hid (Bytes w a1 n f) := h1
  have H2 : Hid (Bytes w a2 n g) := h2
  have HE : Hid (∀ b, (b = true ↔ ∀ i, i < n → f i = g i) → eqB n n f g = b) := by
    intro b hb; unfold eqB; rw [Bool.eq_iff_iff, decide_eq_true_iff]; exact ⟨fun h => hb.2 h.2, fun h => ⟨rfl, hb.1 h⟩⟩
  generalize eqB n n f g = E at HE ⊢
  clear h1 h2
  go_enter Tryd.func14, Tryd.ntmps14
  go_wp2
  go_loopw [5] (fun i wr => ∃ k : Nat, k ≤ n ∧ i = .int .i64 k ∧ Below w.heap.size w wr ∧ ∀ j, j < k → f j = g j) (fun i _ => n - (intOf i).toNat)
  case atStart => exact ⟨0, Nat.zero_le _, rfl, Below.refl _ _, fun j hj => by omega⟩
  case round =>
    obtain ⟨k, hk, rfl, hbel, heq⟩ := hrel
    have HB : Hid (Below w.heap.size w wr) := hbel
    have HQ : Hid (∀ j, j < k → f j = g j) := heq
    clear heq
    by_cases hlt : k < n
    · obtain ⟨_, e | ⟨b1, o1, rfl, q1⟩⟩ := H1.out.later hbel
      · omega
      obtain ⟨_, e | ⟨b2, o2, rfl, q2⟩⟩ := H2.out.later hbel
      · omega
      have k1 := q1 k hlt
      have k2 := q2 k hlt
      clear q1 q2 hbel
      by_cases hfg : f k = g k
      · have HF : Hid (f k = g k) := hfg
        rw [hfg] at k1
        clear hfg
        generalize g k = x at k1 k2
        go_wp2
        go_quiet (fail)
        go_wp2
        go_roundw
        case rel =>
          refine ⟨k + 1, by omega, by go_num, below_drewN HB.out _, fun j hj => ?_⟩
          by_cases e : j = k
          · subst e; exact HF.out
          · exact HQ.out j (by omega)
        case measure => simp [intOf]; omega
      · have hq : (f k != g k) = true := by simpa using hfg
        have e : E = false := HE.out false ⟨fun h => by simp at h, fun h => absurd (h k hlt) hfg⟩
        subst e
        clear hfg
        generalize f k = x at k1 hq
        generalize g k = z at k2 hq
        go_wp2
        go_quiet (fail)
        go_wp2
        go_ret
        exact ⟨rfl, below_drewN HB.out _⟩
    · obtain rfl : k = n := by omega
      have e : E = true := HE.out true ⟨fun _ => HQ.out, fun _ => rfl⟩
      subst e
      clear hbel
      go_wp2
      go_ret
      exact ⟨rfl, HB.out⟩
theorem ints_eq (w : World) (a1 a2 : Option Addr) (n m c1 c2 : Nat) (f g : Nat → Int) (hn : n ≤ 9223372036854775807) (hm : m ≤ 9223372036854775807) (h1 : RowK .i64 w a1 n f) (h2 : RowK .i64 w a2 m g) :
    Calls Tryd.prog 30 #[.slice a1 n c1, .slice a2 m c2] w fun e w' => e = .returned (.bool (eqB n m f g)) ∧ Below w.heap.size w w' := by
  by_cases hnm : n = m
  rotate_left
  · have e : eqB n m f g = false := by unfold eqB; exact decide_eq_false (fun h => hnm h.1)
    rw [e]
    have hq : ((n : Int) != (m : Int)) = true := by simp; omega
    have hq2 : (n != m) = true := by simp [hnm]
    clear h1 h2 e
    go_enter Tryd.func30, Tryd.ntmps30
    go_wp2
    go_ret
    exact ⟨rfl, Below.refl _ _⟩
  subst hnm
  have H1 : Hid (RowK .i64 w a1 n f) := h1
  have H2 : Hid (RowK .i64 w a2 n g) := h2
  have HE : Hid (∀ b, (b = true ↔ ∀ i, i < n → f i = g i) → eqB n n f g = b) := by
    intro b hb; unfold eqB; rw [Bool.eq_iff_iff, decide_eq_true_iff]; exact ⟨fun h => hb.2 h.2, fun h => ⟨rfl, hb.1 h⟩⟩
  generalize eqB n n f g = E at HE ⊢
  clear h1 h2
  go_enter Tryd.func30, Tryd.ntmps30
  go_wp2
  go_loopw [5] (fun i wr => ∃ k : Nat, k ≤ n ∧ i = .int .i64 k ∧ Below w.heap.size w wr ∧ ∀ j, j < k → f j = g j) (fun i _ => n - (intOf i).toNat)
  case atStart => exact ⟨0, Nat.zero_le _, rfl, Below.refl _ _, fun j hj => by omega⟩
  case round =>
    obtain ⟨k, hk, rfl, hbel, heq⟩ := hrel
    have HB : Hid (Below w.heap.size w wr) := hbel
    have HQ : Hid (∀ j, j < k → f j = g j) := heq
    clear heq
    by_cases hlt : k < n
    · obtain ⟨_, e | ⟨b1, o1, rfl, q1⟩⟩ := H1.out.later hbel
      · omega
      obtain ⟨_, e | ⟨b2, o2, rfl, q2⟩⟩ := H2.out.later hbel
      · omega
      have k1 := q1 k hlt
      have k2 := q2 k hlt
      clear q1 q2 hbel
      by_cases hfg : f k = g k
      · have HF : Hid (f k = g k) := hfg
        rw [hfg] at k1
        clear hfg
        generalize g k = x at k1 k2
        go_wp2
        go_quiet (fail)
        go_wp2
        go_roundw
        case rel =>
          refine ⟨k + 1, by omega, by go_num, below_drewN HB.out _, fun j hj => ?_⟩
          by_cases e : j = k
          · subst e; exact HF.out
          · exact HQ.out j (by omega)
        case measure => simp [intOf]; omega
      · have hq : (f k != g k) = true := by simpa using hfg
        have e : E = false := HE.out false ⟨fun h => by simp at h, fun h => absurd (h k hlt) hfg⟩
        subst e
        clear hfg
        generalize f k = x at k1 hq
        generalize g k = z at k2 hq
        go_wp2
        go_quiet (fail)
        go_wp2
        go_ret
        exact ⟨rfl, below_drewN HB.out _⟩
    · obtain rfl : k = n := by omega
      have e : E = true := HE.out true ⟨fun _ => HQ.out, fun _ => rfl⟩
      subst e
      clear hbel
      go_wp2
      go_ret
      exact ⟨rfl, HB.out⟩
theorem mem_eq (w : World) (t1 t2 : Int) (a1 a2 : Option Addr) (n m c1 c2 : Nat) (f g : Nat → Int) (hn : n ≤ 9223372036854775807) (hm : m ≤ 9223372036854775807) (h1 : Bytes w a1 n f) (h2 : Bytes w a2 m g) :
    Calls Tryd.prog 31 #[.agg #[.int .i64 t1, .slice a1 n c1], .agg #[.int .i64 t2, .slice a2 m c2]] w fun e w' => e = .returned (.bool (t1 == t2 && eqB n m f g)) ∧ Below w.heap.size w w' := by
  have HA : Hid (Below w.heap.size w ((w.alloc (.cells #[.int .i64 t1, .slice a1 n c1] 35)).alloc (.cells #[.int .i64 t2, .slice a2 m c2] 35))) := ((Below.refl _ w).alloc (Nat.le_refl _) _).alloc (by simp) _
  have HS : Hid (Calls Tryd.prog 14 #[.slice a1 n c1, .slice a2 m c2] ((w.alloc (.cells #[.int .i64 t1, .slice a1 n c1] 35)).alloc (.cells #[.int .i64 t2, .slice a2 m c2] 35)) fun e w' => e = .returned (.bool (eqB n m f g)) ∧ Below ((w.alloc (.cells #[.int .i64 t1, .slice a1 n c1] 35)).alloc (.cells #[.int .i64 t2, .slice a2 m c2] 35)).heap.size ((w.alloc (.cells #[.int .i64 t1, .slice a1 n c1] 35)).alloc (.cells #[.int .i64 t2, .slice a2 m c2] 35)) w') := bytes_eq _ a1 a2 n m c1 c2 f g hn hm (h1.later HA.out) (h2.later HA.out)
  generalize eqB n m f g = E at HS ⊢
  clear h1 h2
  cases hq : (t1 == t2)
  · go_enter Tryd.func31, Tryd.ntmps31
    go_wp2
    go_ret
    exact ⟨rfl, HA.out⟩
  · go_enter Tryd.func31, Tryd.ntmps31
    go_wp2_with (go_at_call 14; refine HS.out.mono ?_; rintro e w1 ⟨rfl, hb1⟩)
    go_ret
    exact ⟨rfl, HA.out.trans (hb1.mono HA.out.size)⟩
end Go.Proofs.YtnpejnjigaalfaaDoor
