/- What alu's Const answers: a row of one instruction, or of two, in new memory; no row for a number that is no register. -/
import Derived.Test.YtgcifbamfdahdaaAlu
import Derived.Test.YtgcifbamfdahdaaFrame
import Derived.OwnWalk
import Derived.Laws.OwnMore
namespace Go.Proofs.Ytgcifbamfdahdaa
open Go.ChangeShapes Go.WideShapes Go.ChangeAt Go.RowKit
set_option linter.unusedVariables false

/-- How many instructions write the word x. -/
def constN (x : Int) : Nat := if fitsB (signZ x 32) 16 = true then 1 else if x % 65536 = 0 then 1 else 2
/-- The k-th one's operation, its register B, its number. -/
def constO (x : Int) (k : Nat) : Int := if k = 0 then (if fitsB (signZ x 32) 16 = true then 8 else 9) else 10
def constB (a : Int) (k : Nat) : Int := if k = 0 then 0 else a
def constI (x : Int) (k : Nat) : Int := if k = 0 then (if fitsB (signZ x 32) 16 = true then signZ x 32 else x / 65536) else x % 65536
/-- n instructions stand at the head of block g, five cells each. -/
def RowF (w : World) (g n : Nat) (o a b c i : Nat → Int) : Prop := ∀ k, k < n →
  w.cell? ⟨g, k * 5, none⟩ = some (.int .i64 (o k)) ∧ w.cell? ⟨g, k * 5 + 1, none⟩ = some (.int .i64 (a k)) ∧ w.cell? ⟨g, k * 5 + 2, none⟩ = some (.int .i64 (b k)) ∧
  w.cell? ⟨g, k * 5 + 3, none⟩ = some (.int .i64 (c k)) ∧ w.cell? ⟨g, k * 5 + 4, none⟩ = some (.int .i64 (i k))
theorem RowF.later {w w' : World} {g n : Nat} {o a b c i : Nat → Int} (h : RowF w g n o a b c i) (hb : Below w.heap.size w w') : RowF w' g n o a b c i := fun k hk =>
  ⟨cell_later' (h k hk).1 hb, cell_later' (h k hk).2.1 hb, cell_later' (h k hk).2.2.1 hb, cell_later' (h k hk).2.2.2.1 hb, cell_later' (h k hk).2.2.2.2 hb⟩
/-- A row that may be written. -/
def Free (w : World) (g : Nat) : Prop := (∀ q, w.frozen? ⟨g, q, none⟩ = false) ∧ g < w.heap.size
theorem Free.later {w w' : World} {g : Nat} (h : Free w g) (hb : Below w.heap.size w w') : Free w' g :=
  ⟨fun q => (hb.frozen (p := ⟨g, q, none⟩) h.2).trans (h.1 q), Nat.lt_of_lt_of_le h.2 hb.size⟩
theorem free_of_owns {w : World} {base g n cap : Nat} {xs : List Value} (h : w.ownsRow base 23 5 (.slice (some ⟨g, 0, none⟩) n cap) n xs) : Free w g :=
  ⟨fun q => h.frozenAt q, (h.lt g rfl).2⟩
/-- The cells of the first n instructions. -/
def cellsF (o a b c i : Nat → Int) : Nat → List Value
  | 0 => []
  | n + 1 => cellsF o a b c i n ++ [.int .i64 (o n), .int .i64 (a n), .int .i64 (b n), .int .i64 (c n), .int .i64 (i n)]
theorem cellsF_len (o a b c i : Nat → Int) : ∀ n, (cellsF o a b c i n).length = n * 5
  | 0 => rfl
  | n + 1 => by simp [cellsF, cellsF_len o a b c i n]; omega
theorem cellsF_at (o a b c i : Nat → Int) : ∀ n k, k < n → (cellsF o a b c i n)[k * 5]? = some (.int .i64 (o k)) ∧ (cellsF o a b c i n)[k * 5 + 1]? = some (.int .i64 (a k)) ∧ (cellsF o a b c i n)[k * 5 + 2]? = some (.int .i64 (b k)) ∧ (cellsF o a b c i n)[k * 5 + 3]? = some (.int .i64 (c k)) ∧ (cellsF o a b c i n)[k * 5 + 4]? = some (.int .i64 (i k))
  | 0, k, h => by omega
  | n + 1, k, h => by
    have hl := cellsF_len o a b c i n
    by_cases hk : k < n
    · obtain ⟨h0, h1, h2, h3, h4⟩ := cellsF_at o a b c i n k hk
      simp only [cellsF]
      rw [List.getElem?_append_left (by omega), List.getElem?_append_left (by omega), List.getElem?_append_left (by omega), List.getElem?_append_left (by omega), List.getElem?_append_left (by omega)]
      exact ⟨h0, h1, h2, h3, h4⟩
    · obtain rfl : k = n := by omega
      simp only [cellsF]
      rw [List.getElem?_append_right (by omega), List.getElem?_append_right (by omega), List.getElem?_append_right (by omega), List.getElem?_append_right (by omega), List.getElem?_append_right (by omega), hl]
      simp
theorem row_of_owns {w : World} {base g n cap : Nat} {o a b c i : Nat → Int} (h : w.ownsRow base 23 5 (.slice (some ⟨g, 0, none⟩) n cap) n (cellsF o a b c i n)) : RowF w g n o a b c i := by
  intro k hk
  obtain ⟨h0, h1, h2, h3, h4⟩ := cellsF_at o a b c i n k hk
  exact ⟨(h.cellAt _ (by omega)).trans h0, (h.cellAt _ (by omega)).trans h1, (h.cellAt _ (by omega)).trans h2, (h.cellAt _ (by omega)).trans h3, (h.cellAt _ (by omega)).trans h4⟩
theorem owned_slice {w : World} {base n : Nat} {v : Value} {xs : List Value} (h : w.ownsRow base 23 5 v n xs) (hn : 0 < n) : ∃ g cap, v = .slice (some ⟨g, 0, none⟩) n cap ∧ base ≤ g := by
  rcases h.2 with ⟨_, h0⟩ | ⟨g, cap, cur, rfl, hb, _⟩
  · omega
  · exact ⟨g, cap, rfl, hb⟩
theorem owns_lit (w : World) (cur : Array Value) (base : Nat) (hb : base ≤ w.heap.size) (hs : cur.size = 5) : (w.alloc (.cells cur 23)).ownsRow base 23 5 (.slice (some ⟨w.heap.size, 0, none⟩) 1 1) 1 cur.toList :=
  ⟨by simp [hs], .inr ⟨w.heap.size, 1, cur, rfl, hb, heap_alloc_new w _, Nat.le_refl _, by unfold maxLen; omega, by simp [hs], by rw [List.take_of_length_le (by simp [hs])]⟩⟩
theorem info23 : (Try.prog.info? 23).map (fun i => (i.zero, i.size, i.bytes)) = some (some (.agg #[.int .i64 0, .int .i64 0, .int .i64 0, .int .i64 0, .int .i64 0]), 5, 40) := by kernel_rfl
theorem new2_cell (w : World) (o : Obj) (cs : Array Value) (t : TypeId) (j : Nat) (u : Value) (h : cs.toList[j]? = some u) : ((w.alloc o).alloc (.cells cs t)).cell? ((⟨w.heap.size + 1, 0, none⟩ : Addr).add j) = some u := by
  have e : (⟨w.heap.size + 1, 0, none⟩ : Addr).add j = ⟨w.heap.size + 1, j, none⟩ := by cases j <;> simp [Addr.add]
  have e2 : w.heap.size + 1 = (w.alloc o).heap.size := by simp
  rw [e, e2]
  exact new_cell' _ _ _ j u (by simpa using h)

theorem const_out (a x : Int) (w : World) (h : a < 1 ∨ 15 < a) :
    Calls Try.prog 15 #[.int .i64 a, .int .u32 x] w fun e w' => e = .returned (.slice none 0 0) ∧ w' = w := by
  rcases h with h | h
  · go_enter Try.func15, Try.ntmps15
    go_wp2
    go_ret
    exact ⟨rfl, rfl⟩
  · go_enter Try.func15, Try.ntmps15
    go_wp2
    go_ret
    exact ⟨rfl, rfl⟩
theorem const_small (a x : Int) (w : World) (a0 : 1 ≤ a) (a1 : a ≤ 15) (x0 : 0 ≤ x) (x1 : x < 4294967296) (hf : fitsB (signZ x 32) 16 = true) :
    Calls Try.prog 15 #[.int .i64 a, .int .u32 x] w fun e w' => ∃ v, e = .returned v ∧ w'.ownsRow w.heap.size 23 5 v 1 (cellsF (constO x) (fun _ => a) (constB a) (fun _ => 0) (constI x) 1) ∧ Below w.heap.size w w' := by
  have HC : Hid (cellsF (constO x) (fun _ => a) (constB a) (fun _ => 0) (constI x) 1 = [.int .i64 8, .int .i64 a, .int .i64 0, .int .i64 0, .int .i64 (signZ x 32)]) := by
    simp [Hid, cellsF, constO, constB, constI, hf]
  generalize cellsF (constO x) (fun _ => a) (constB a) (fun _ => 0) (constI x) 1 = C at HC ⊢
  go_enter Try.func15, Try.ntmps15
  go_wp2_with (first
    | (go_at_call 28; refine (signed_any _ _ x0 x1).mono ?_; rintro e w' ⟨rfl, rfl⟩)
    | (go_at_call 29; refine (fits_any _ _ _).mono ?_; rintro e w' ⟨rfl, rfl⟩; rw [hf]))
  go_ret
  rw [HC.out]
  exact ⟨_, rfl, owns_lit _ #[.int .i64 8, .int .i64 a, .int .i64 0, .int .i64 0, .int .i64 (signZ x 32)] _ (Nat.le_refl _) rfl, (Below.refl _ _).alloc (Nat.le_refl _) _⟩
theorem low_word (x : Int) (x0 : 0 ≤ x) (x1 : x < 4294967296) : wrap64 (bits BinOp.and IntKind.u32 x 65535) = x % 65536 := by
  obtain ⟨n, rfl⟩ := Int.eq_ofNat_of_zero_le x0
  have h := u32_and_nat n 65535 (by omega) (by omega)
  have h2 : n &&& 65535 = n % 65536 := Nat.and_two_pow_sub_one_eq_mod n 16
  rw [h2] at h
  rw [show bits BinOp.and IntKind.u32 (n : Int) 65535 = ((n % 65536 : Nat) : Int) from h, IntWalk.wrap64_in _ (by omega)]
  omega
theorem const_high (a x : Int) (w : World) (a0 : 1 ≤ a) (a1 : a ≤ 15) (x0 : 0 ≤ x) (x1 : x < 4294967296) (hf : fitsB (signZ x 32) 16 = false) (hl : x % 65536 = 0) :
    Calls Try.prog 15 #[.int .i64 a, .int .u32 x] w fun e w' => ∃ v, e = .returned v ∧ w'.ownsRow w.heap.size 23 5 v 1 (cellsF (constO x) (fun _ => a) (constB a) (fun _ => 0) (constI x) 1) ∧ Below w.heap.size w w' := by
  have HC : Hid (cellsF (constO x) (fun _ => a) (constB a) (fun _ => 0) (constI x) 1 = [.int .i64 9, .int .i64 a, .int .i64 0, .int .i64 0, .int .i64 (x / 65536)]) := by
    simp [Hid, cellsF, constO, constB, constI, hf]
  generalize cellsF (constO x) (fun _ => a) (constB a) (fun _ => 0) (constI x) 1 = C at HC ⊢
  have hq : (wrap64 (bits BinOp.and IntKind.u32 x 65535) != 0) = false := by rw [low_word x x0 x1, hl]; rfl
  go_enter Try.func15, Try.ntmps15
  go_wp2_with (first
    | (go_at_call 28; refine (signed_any _ _ x0 x1).mono ?_; rintro e w' ⟨rfl, rfl⟩)
    | (go_at_call 29; refine (fits_any _ _ _).mono ?_; rintro e w' ⟨rfl, rfl⟩; rw [hf]))
  go_ret
  rw [HC.out]
  exact ⟨_, rfl, owns_lit _ #[.int .i64 9, .int .i64 a, .int .i64 0, .int .i64 0, .int .i64 (x / 65536)] _ (Nat.le_refl _) rfl, (Below.refl _ _).alloc (Nat.le_refl _) _⟩
set_option maxHeartbeats 1000000 in
theorem const_two (a x : Int) (w : World) (a0 : 1 ≤ a) (a1 : a ≤ 15) (x0 : 0 ≤ x) (x1 : x < 4294967296) (hf : fitsB (signZ x 32) 16 = false) (hl : ¬ x % 65536 = 0) :
    Calls Try.prog 15 #[.int .i64 a, .int .u32 x] w fun e w' => ∃ v, e = .returned v ∧ w'.ownsRow w.heap.size 23 5 v 2 (cellsF (constO x) (fun _ => a) (constB a) (fun _ => 0) (constI x) 2) ∧ Below w.heap.size w w' := by
  have HC : Hid (cellsF (constO x) (fun _ => a) (constB a) (fun _ => 0) (constI x) 2 = #[.int .i64 9, .int .i64 a, .int .i64 0, .int .i64 0, .int .i64 (x / 65536)].toList ++ [.int .i64 10, .int .i64 a, .int .i64 a, .int .i64 0, .int .i64 (wrap64 (bits BinOp.and IntKind.u32 x 65535))]) := by
    simp [Hid, cellsF, constO, constB, constI, hf, low_word x x0 x1]
  generalize cellsF (constO x) (fun _ => a) (constB a) (fun _ => 0) (constI x) 2 = C at HC ⊢
  have hq : (wrap64 (bits BinOp.and IntKind.u32 x 65535) != 0) = true := by rw [low_word x x0 x1]; simp [hl]
  obtain ⟨i0, hi, hz0, hz1, hz2⟩ := info_parts info23
  go_enter Try.func15, Try.ntmps15
  go_wp2_with (first
    | (go_at_call 28; refine (signed_any _ _ x0 x1).mono ?_; rintro e w' ⟨rfl, hw⟩; obtain rfl := hw.symm)
    | (go_at_call 29; refine (fits_any _ _ _).mono ?_; rintro e w' ⟨rfl, hw⟩; obtain rfl := hw.symm; rw [hf])
    | (at_builtin; refine wpList_append_own _ rfl _ _ 31 rfl _ 23 i0 _ 5 40 Try.underlying31 hi hz0 hz1 hz2 rfl (by decide) _ _ _ rfl ((owns_lit _ _ _ (Nat.le_refl _) rfl).alloc _) _ 1 1 [.int .i64 10, .int .i64 a, .int .i64 a, .int .i64 0, .int .i64 (wrap64 (bits BinOp.and IntKind.u32 x 65535))] rfl rfl ?c1 ?c2 ?c3 ?c4 ?c5 ?_))
  case c1 => intro j u hj; exact new2_cell _ _ _ _ j u hj
  case c2 => intro u hu; simp at hu; rcases hu with rfl | rfl | rfl | rfl <;> rfl
  case c3 => unfold maxLen; omega
  case c4 => omega
  case c5 => simp; omega
  intro v1 w1 hown1 hgrow1 _
  have hb1 : Below w.heap.size w w1 := (((Below.refl _ w).alloc (Nat.le_refl _) _).alloc (by simp) _).grown hgrow1 (by simp; omega) (by simp [Value.ownBlock])
  have H1 : Hid (w1.ownsRow w.heap.size 23 5 v1 2 (#[.int .i64 9, .int .i64 a, .int .i64 0, .int .i64 0, .int .i64 (x / 65536)].toList ++ [.int .i64 10, .int .i64 a, .int .i64 a, .int .i64 0, .int .i64 (wrap64 (bits BinOp.and IntKind.u32 x 65535))])) := hown1
  have HB : Hid (Below w.heap.size w w1) := hb1
  clear hgrow1 hown1 hb1
  go_wp2
  go_ret
  rw [HC.out]
  exact ⟨_, rfl, H1.out, HB.out⟩
theorem const_any (a x : Int) (w : World) (a0 : 1 ≤ a) (a1 : a ≤ 15) (x0 : 0 ≤ x) (x1 : x < 4294967296) :
    Calls Try.prog 15 #[.int .i64 a, .int .u32 x] w fun e w' => ∃ g cap, e = .returned (.slice (some ⟨g, 0, none⟩) (constN x) cap) ∧ w.heap.size ≤ g ∧ RowF w' g (constN x) (constO x) (fun _ => a) (constB a) (fun _ => 0) (constI x) ∧ Free w' g ∧ Below w.heap.size w w' := by
  have fin : ∀ n : Nat, 0 < n → ∀ (e : Ending) (w' : World), (∃ v, e = Ending.returned v ∧ w'.ownsRow w.heap.size 23 5 v n (cellsF (constO x) (fun _ => a) (constB a) (fun _ => 0) (constI x) n) ∧ Below w.heap.size w w') → ∃ g cap, e = Ending.returned (.slice (some ⟨g, 0, none⟩) n cap) ∧ w.heap.size ≤ g ∧ RowF w' g n (constO x) (fun _ => a) (constB a) (fun _ => 0) (constI x) ∧ Free w' g ∧ Below w.heap.size w w' := by
    rintro n hn e w' ⟨v, rfl, ho, hb⟩
    obtain ⟨g, cap, rfl, hg⟩ := owned_slice ho hn
    exact ⟨g, cap, rfl, hg, row_of_owns ho, free_of_owns ho, hb⟩
  unfold constN
  cases hf : fitsB (signZ x 32) 16
  · rw [if_neg (by decide)]
    by_cases hl : x % 65536 = 0
    · rw [if_pos hl]
      exact (const_high a x w a0 a1 x0 x1 hf hl).mono (fin 1 (by decide))
    · rw [if_neg hl]
      exact (const_two a x w a0 a1 x0 x1 hf hl).mono (fin 2 (by decide))
  · rw [if_pos rfl]
    exact (const_small a x w a0 a1 x0 x1 hf).mono (fin 1 (by decide))
end Go.Proofs.Ytgcifbamfdahdaa
