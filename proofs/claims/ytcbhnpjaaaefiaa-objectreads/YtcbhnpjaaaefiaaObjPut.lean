/- What the document's own functions write of numbers and names. -/
import Derived.Test.YtcbhnpjaaaefiaaObjRd
import Derived.Test.YtcbhnpjaaaefiaaObjOwn
import Derived.Lib.ConvBytes
namespace Go.Proofs.Ytcbhnpjaaaefiaa
open Go.ChangeShapes Go.WideShapes Go.ChangeAt Go.RowKit
set_option linter.unusedVariables false
set_option linter.unusedSimpArgs false
theorem digL_get (n : Nat) : ∀ (x : Int) (i : Nat), i < n → gF (digL n x) i = x / 256 ^ i % 256 := by
  induction n with
  | zero => intro x i h; omega
  | succ n ih =>
    intro x i h
    rcases i with _ | i
    · show x % 256 = x / 256 ^ 0 % 256
      rw [Int.pow_zero, Int.ediv_one]
    · have h1 : gF (digL (n + 1) x) (i + 1) = gF (digL n (x / 256)) i := rfl
      rw [h1, ih (x / 256) i (by omega), Int.pow_succ, Int.mul_comm, ← Int.ediv_ediv_of_nonneg (by decide)]
theorem bytes_dig {w : World} {a : Option Addr} {n k : Nat} {x : Int} (h : ∀ i, i < k → ∃ b off, a = some ⟨b, off, none⟩ ∧ w.cell? ⟨b, off + i, none⟩ = some (.int .u8 (x / 256 ^ i % 256))) (hk : k ≠ 0) : Bytes w a k (gF (digL k x)) := by
  obtain ⟨b, off, e, _⟩ := h 0 (by omega)
  refine ⟨gF_byt (digL_byt k x), .inr ⟨b, off, e, fun i hi => ?_⟩⟩
  obtain ⟨b', off', e', hc⟩ := h i hi
  rw [e] at e'
  cases e'
  rw [digL_get k x i hi]; exact hc
/-- The first ones of a row, the row's beginning. -/
theorem slice_first9 (W : World) (a : Option Addr) (n c k : Nat) (hk : k ≤ n) (hc : n ≤ c) : (Instr.slice 29 (.slice a n c) none (some (.int .i64 (k : Int))) none).run Try.prog W = .ok (.slice a k c) W := by
  rw [run_slice_h W 29 a n c (by kernel_rfl) .i64 (k : Int) (by omega) (by omega)]
  have hs : (sizeOf (Try.prog.elem 29)).run Try.prog W = .ok 1 W := by go_simp
  rw [hs]
  simp only [Result.andThen_ok, sliced, Int.toNat_natCast]
  simp
  intro _
  cases a with
  | none => rfl
  | some y => simp [Addr.add]
theorem rnum9 (x : Int) (k : Nat) (w : World) (x0 : 0 ≤ x) (x1 : x < 4294967296) (k0 : 1 ≤ k) (k1 : k ≤ 4) :
    Calls Try.prog 28 #[.int .i64 x, .int .i64 k] w fun e w' => ∃ a c, e = .returned (.slice a k c) ∧ (Head a k c ∧ Bytes w' a k (gF (digL k x))) ∧ (∀ q, a = some q → q.block = w.heap.size) ∧ Below w.heap.size w w' := by
  have ec : cutZ x 32 = x := by
    unfold cutZ
    rw [if_pos (by omega), show (2 : Int) ^ (32 : Int).toNat = 4294967296 from by decide]
    omega
  have CT : Hid (∀ W, Calls Try.prog 61 #[.int .i64 x, .int .i64 32] W fun e w' => e = .returned (.int .u32 x) ∧ w' = W) := fun W => by
    have h := rcut_any x 32 W
    rwa [ec] at h
  obtain ⟨C, eC⟩ : ∃ C, bytesOf x = C := ⟨_, rfl⟩
  have PT : Hid (∀ W, Calls Try.prog 30 #[.int .u32 x] W fun e w' => e = .returned (.slice (some ⟨W.heap.size, 0, none⟩) 4 4) ∧ w' = W.alloc (.cells C 5)) := fun W => by
    rw [← eC]; exact rput_any x W x0 x1
  have S1 : ∀ W g, (Instr.slice 29 (.slice (some ⟨g, 0, none⟩) 4 4) none (some (.int .i64 (k : Int))) none).run Try.prog W = .ok (.slice (some ⟨g, 0, none⟩) k 4) W := fun W g => slice_first9 W _ 4 4 k k1 (Nat.le_refl _)
  have RB : Hid (∀ W : World, Bytes (W.alloc (.cells C 5)) (some ⟨W.heap.size, 0, none⟩) k (gF (digL k x))) := fun W => by
    refine bytes_dig (n := 4) (fun i hi => ⟨_, _, rfl, ?_⟩) (by omega)
    rw [Nat.zero_add, ← eC]
    refine new_cell' W _ _ i _ ?_
    have p3 : x / 256 ^ 3 % 256 = x / 16777216 := by
      have : (256 : Int) ^ 3 = 16777216 := by decide
      rw [this]; omega
    rcases (by omega : i = 0 ∨ i = 1 ∨ i = 2 ∨ i = 3) with rfl | rfl | rfl | rfl
    · simp [bytesOf]
    · simp [bytesOf]
    · simp [bytesOf]
    · rw [p3]; simp [bytesOf]
  have hk0 : (1 : Int) ≤ k := by omega
  have hk1 : (k : Int) ≤ 4 := by omega
  clear eC ec
  go_enter Try.func28, Try.ntmps28
  go_wp2_with (first
    | (go_at_call 61; refine (CT.out _).mono ?_; rintro e w1 ⟨rfl, rfl⟩)
    | (go_at_call 30; refine (PT.out _).mono ?_; rintro e w2 ⟨rfl, rfl⟩))
  go_ret
  exact ⟨_, _, rfl, ⟨⟨k1, fun e => by cases e⟩, RB.out _⟩, (fun q e => by cases e; rfl), keep_alloc8 (Below.refl _ _) _⟩
theorem bytesL_cells (t : ByteArray) : Lib.strCells t = (bytesL t).map fun x => .int .u8 x := by
  unfold Lib.strCells bytesL
  simp
theorem bytes_world9 (w : World) (s : ByteArray) : Below w.heap.size w (Lib.bytesWorld w 5 s) ∧ ∀ ad, some (⟨w.heap.size, 0, none⟩ : Addr) = some ad → ∀ j u, ((bytesL s).map fun x => Value.int .u8 x)[j]? = some u → (Lib.bytesWorld w 5 s).cell? (ad.add j) = some u := by
  refine ⟨⟨?_, ?_, ?_, by rw [Lib.bytesWorld_size]; omega, fun k hk => Lib.bytesWorld_at_old w _ s k hk⟩, fun ad e j u hu => ?_⟩
  · simp [Lib.bytesWorld, World.freeze, World.alloc, World.drew, -World.alloc_eq, -World.drew_eq]
  · simp [Lib.bytesWorld, World.freeze, World.alloc, World.drew, -World.alloc_eq, -World.drew_eq]
  · simp [Lib.bytesWorld, World.freeze, World.alloc, World.drew, -World.alloc_eq, -World.drew_eq]
  · cases e
    have hj : j < s.size := by
      have := (List.getElem?_eq_some_iff.1 hu).1
      rwa [List.length_map, bytesL_len] at this
    rw [show (⟨w.heap.size, 0, none⟩ : Addr).add j = ⟨w.heap.size, j, none⟩ from by cases j <;> simp [Addr.add], Lib.bytesWorld_cell w _ s j hj, ← hu]
    have hl : j < s.data.size := hj
    simp [bytesL, List.getD]
    rw [Array.getElem?_eq_getElem hl]
    rfl
theorem own_world9 {w : World} {base : Nat} {e : TypeId} {size : Nat} {v : Value} {n : Nat} {xs : List Value} (h : w.ownsRow base e size v n xs) (s : ByteArray) : (Lib.bytesWorld w 5 s).ownsRow base e size v n xs := own_below h (bytes_world9 w s).1
set_option maxRecDepth 100000 in
theorem rname9 (t : ByteArray) (w : World) (ht : t.size ≤ 255) :
    Calls Try.prog 29 #[.string t] w fun e w' => ∃ a c, e = .returned (.slice a (nameW t).length c) ∧ w'.ownsRow w.heap.size 5 1 (.slice a (nameW t).length c) (nameW t).length ((nameW t).map fun x => .int .u8 x) ∧ Below w.heap.size w w' := by
  have hl : (nameW t).length = 1 + t.size := by unfold nameW; rw [List.length_append, digL_len, bytesL_len]
  have hm : ((nameW t).map fun x => Value.int .u8 x) = [.int .u8 (t.size : Int)] ++ (bytesL t).map fun x => .int .u8 x := by
    unfold nameW
    rw [dig1 (by omega) (by omega), List.map_append]
    rfl
  rw [hl, hm]
  have hw8 : IntKind.u8.wrap (t.size : Int) = t.size := by simp [IntKind.wrap, IntKind.bits, IntKind.signed]; omega
  have ht' : (t.size : Int) ≤ 255 := by omega
  have CV : ∀ W, (convert 9 29 (.string t)).run Try.prog W = .ok (.slice (some ⟨W.heap.size, 0, none⟩) t.size (grownCap W t.size 0 5)) (Lib.bytesWorld W 5 t) := fun W => Lib.run_convert_string_bytes W _ _ 5 t Try.underlying9 Try.underlying29 Try.underlying5
  obtain ⟨i0, hi0, hz0, hz1, hz2⟩ := info_parts slB
  have hlen : ((bytesL t).map fun x => Value.int .u8 x).length = t.size * 1 := by rw [List.length_map, bytesL_len, Nat.mul_one]
  have NW : Hid (∀ ad, some (⟨w.heap.size + 1, 0, none⟩ : Addr) = some ad → ∀ j u, ((bytesL t).map fun x => Value.int .u8 x)[j]? = some u → (Lib.bytesWorld (w.alloc (.cells #[.int .u8 (t.size : Int)] 5)) 5 t).cell? (ad.add j) = some u) := by
    have h := (bytes_world9 (w.alloc (.cells #[.int .u8 (t.size : Int)] 5)) t).2
    rwa [show (w.alloc (.cells #[.int .u8 (t.size : Int)] 5)).heap.size = w.heap.size + 1 from by simp] at h
  clear hl hm
  go_enter Try.func29, Try.ntmps29
  go_wp2_with (at_builtin; refine wpList_append_all (Lib.bytesWorld (w.alloc (.cells #[.int .u8 (t.size : Int)] 5)) 5 t) rfl (.tmp 6) (.tmp 8) 29 rfl w.heap.size 5 i0 _ 1 1 Try.underlying29 hi0 hz0 hz1 hz2 rfl (by decide) _ 1 [.int .u8 (t.size : Int)] rfl (own_world9 (World.ownsRow_lit (base := w.heap.size) (size := 1) w #[.int .u8 (t.size : Int)] 1 (Nat.le_refl _) (by unfold maxLen; omega) rfl) t) (some ⟨w.heap.size + 1, 0, none⟩) t.size _ ((bytesL t).map fun x => .int .u8 x) rfl hlen (fun e => by cases e) NW.out (by intro u hu; obtain ⟨y, _, rfl⟩ := List.mem_map.mp hu; rfl) (by unfold maxLen; omega) (by omega) (Nat.le_trans (keep_alloc8 (Below.refl _ w) _).size (bytes_world9 _ t).1.size) ?_; intro a2 c2 w2 o2 g2)
  go_ret
  have b1 : Below w.heap.size w (Lib.bytesWorld (w.alloc (.cells #[.int .u8 (t.size : Int)] 5)) 5 t) := bnext (keep_alloc8 (Below.refl _ _) _) (bytes_world9 _ t).1
  exact ⟨a2, c2, rfl, o2, Below.grown b1 g2 b1.size (fun q hq => by have h : some w.heap.size = some q := hq; have := Option.some.inj h; omega)⟩
end Go.Proofs.Ytcbhnpjaaaefiaa
