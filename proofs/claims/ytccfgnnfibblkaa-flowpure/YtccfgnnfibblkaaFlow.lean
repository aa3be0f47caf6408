/- What package flow returns: an instruction's kind, what it writes and reads, its contrary: one contract a function. -/
import Derived.Test.YtccfgnnfibblkaaInts
import Derived.Test.YtccfgnnfibblkaaCodeMath
import Derived.OwnWalk
namespace Go.Proofs.Ytccfgnnfibblkaa
open Go.ChangeShapes Go.WideShapes Go.ChangeAt Go.RowKit Go.Sort
set_option linter.unusedVariables false

/-- What an instruction reads, as it stands in it: C, B, A. -/
def rawL (op a b c : Int) : List Int :=
  if 1 ≤ op ∧ op ≤ 7 then [c, b] else if op = 8 ∨ op = 10 ∨ op = 11 ∨ op = 13 then [b] else if op = 12 ∨ 14 ≤ op ∧ op ≤ 18 then [b, a] else if op = 0 ∨ op = 23 then [a] else []
/-- What it reads. -/
def readL (op a b c : Int) : List Int := risingL (rawL op a b c)

theorem info3 : (Try.prog.info? 3).map (fun i => (i.zero, i.size, i.bytes)) = some (some (.int .i64 0), 1, 8) := by kernel_rfl
theorem owns_below1 {w w1 : World} {base e size n : Nat} {v : Value} {xs : List Value} (h : w.ownsRow base e size v n xs) (hb : Below w.heap.size w w1) : w1.ownsRow base e size v n xs :=
  h.kept (row := none) ⟨hb.os, hb.tape, hb.output, hb.size, fun k hk _ => hb.block k hk⟩ (by cases hv : v.ownBlock <;> simp)
theorem holds_of_owns {w : World} {base n : Nat} {v : Value} {L : List Int} (h : w.ownsRow base 3 1 v n (L.map encI)) : L.length = n ∧ (L = [] ∧ (∃ a cap, v = .slice a 0 cap) ∨ ∃ g cap, v = .slice (some ⟨g, 0, none⟩) n cap ∧ base ≤ g ∧ g < w.heap.size ∧ n ≤ cap ∧ Holds encI w g 0 L.toArray) := by
  have hl : L.length = n := by have := h.1; simpa using this
  refine ⟨hl, ?_⟩
  rcases h.2 with ⟨rfl, h0⟩ | ⟨g, cap, cur, rfl, hb, hg, hn, hm, hs, ht⟩
  · subst h0
    exact .inl ⟨by simpa using hl, none, 0, rfl⟩
  · refine .inr ⟨g, cap, rfl, hb, (Array.getElem?_eq_some_iff.1 hg).1, hn, ?_⟩
    intro j hj
    have hj' : j < L.length := by simpa using hj
    refine ⟨?_, by simp [World.frozen?, hg]⟩
    have hc := h.cellAt j (by omega)
    rw [Nat.zero_add, hc, getElem!_pos _ j hj]
    simp [hj']
theorem new_cell1 (w : World) (cs : Array Value) (t : TypeId) (j : Nat) (u : Value) (h : cs[j]? = some u) : (w.alloc (.cells cs t)).cell? ⟨w.heap.size, j, none⟩ = some u := by
  simp [go_sem, h]
theorem new2_cell1 (w : World) (o : Obj) (cs : Array Value) (t : TypeId) (j : Nat) (u : Value) (h : cs.toList[j]? = some u) : ((w.alloc o).alloc (.cells cs t)).cell? ((⟨w.heap.size + 1, 0, none⟩ : Addr).add j) = some u := by
  have e : (⟨w.heap.size + 1, 0, none⟩ : Addr).add j = ⟨w.heap.size + 1, j, none⟩ := by cases j <;> simp [Addr.add]
  have e2 : w.heap.size + 1 = (w.alloc o).heap.size := by simp
  rw [e, e2]
  exact new_cell1 _ _ _ j u (by simpa using h)

theorem rising_own {w : World} {base n : Nat} {v : Value} {L : List Int} (h : w.ownsRow base 3 1 v n (L.map encI)) (hL : L.length ≤ 1000) :
    Calls Try.prog 25 #[v] w fun e w' => ∃ v', e = .returned v' ∧ IsInts w' base v' (risingL L) ∧ Below base w w' := by
  obtain ⟨hl, h⟩ := holds_of_owns h
  subst hl
  rcases h with ⟨rfl, a, cap, rfl⟩ | ⟨g, cap, rfl, hb, hg, hc, hH⟩
  · refine (rising_none w a cap).mono ?_
    rintro e w' ⟨rfl, rfl⟩
    exact ⟨_, rfl, ⟨a, cap, by rw [rising_nil]; rfl, .inl rising_nil⟩, Below.refl _ _⟩
  · refine (rising_any w g cap L hH hg hL hc).mono ?_
    rintro e w' ⟨v', rfl, h1, h2⟩
    obtain ⟨a, cap', e1, h1⟩ := h1
    refine ⟨v', rfl, ⟨a, cap', e1, ?_⟩, h2.mono hb⟩
    rcases h1 with h1 | ⟨g', ea, k1, k2, k3⟩
    · exact .inl h1
    · exact .inr ⟨g', ea, by omega, k2, k3⟩

set_option maxHeartbeats 1000000 in
theorem reads_0 (a b c imm : Int) (w : World) : Calls Try.prog 15 #[.agg #[.int .i64 0, .int .i64 a, .int .i64 b, .int .i64 c, .int .i64 imm]] w fun e w' => ∃ v, e = .returned v ∧ IsInts w' w.heap.size v (readL 0 a b c) ∧ Below w.heap.size w w' := by
  obtain ⟨i0, hi, hz0, hz1, hz2⟩ := info_parts info3
  go_enter Try.func15, Try.ntmps15
  go_wp2_with (at_builtin; refine wpList_append_own _ rfl _ _ 28 rfl w.heap.size 3 i0 _ 1 8 Try.underlying28 hi hz0 hz1 hz2 rfl (by decide) _ _ _ rfl ((World.ownsRow_nil w w.heap.size 3 1).alloc _ |>.alloc _) ⟨w.heap.size + 1, 0, none⟩ 1 1 [.int .i64 a] rfl rfl ?c1 ?c2 ?c3 ?c4 ?c5 ?_)
  case c1 => intro j u hj; exact new2_cell1 _ _ _ _ j u hj
  case c2 => intro u hu; simp at hu; subst hu; rfl
  case c3 => unfold maxLen; omega
  case c4 => omega
  case c5 => simp; omega
  intro v1 w1 hown1 hgrow1 _
  have hcA : w1.cell? ⟨w.heap.size, 1, none⟩ = some (.int .i64 a) := hgrow1.cell (by simp [go_sem]) (by simp [Value.ownBlock])
  have hcB : w1.cell? ⟨w.heap.size, 2, none⟩ = some (.int .i64 b) := hgrow1.cell (by simp [go_sem]) (by simp [Value.ownBlock])
  have hb1 : Below w.heap.size w w1 := (((Below.refl _ w).alloc (Nat.le_refl _) _).alloc (by simp) _).grown hgrow1 (by simp; omega) (by simp [Value.ownBlock])
  have H1 : Hid (w1.ownsRow w.heap.size 3 1 v1 1 [.int .i64 a]) := hown1
  have HB : Hid (Below w.heap.size w w1) := hb1
  clear hgrow1 hown1 hb1
  go_wp2_with (go_at_call 25; refine (rising_own (show w1.ownsRow w.heap.size 3 1 v1 1 ([a].map encI) from H1.out) (by simp)).mono ?_; rintro e w9 ⟨v9, rfl, h9, b9⟩)
  go_ret
  refine ⟨v9, rfl, ?_, HB.out.trans b9⟩
  exact h9
set_option maxHeartbeats 1000000 in
theorem reads_1 (a b c imm : Int) (w : World) : Calls Try.prog 15 #[.agg #[.int .i64 1, .int .i64 a, .int .i64 b, .int .i64 c, .int .i64 imm]] w fun e w' => ∃ v, e = .returned v ∧ IsInts w' w.heap.size v (readL 1 a b c) ∧ Below w.heap.size w w' := by
  obtain ⟨i0, hi, hz0, hz1, hz2⟩ := info_parts info3
  go_enter Try.func15, Try.ntmps15
  go_wp2_with (at_builtin; refine wpList_append_own _ rfl _ _ 28 rfl w.heap.size 3 i0 _ 1 8 Try.underlying28 hi hz0 hz1 hz2 rfl (by decide) _ _ _ rfl ((World.ownsRow_nil w w.heap.size 3 1).alloc _ |>.alloc _) ⟨w.heap.size + 1, 0, none⟩ 1 1 [.int .i64 c] rfl rfl ?c1 ?c2 ?c3 ?c4 ?c5 ?_)
  case c1 => intro j u hj; exact new2_cell1 _ _ _ _ j u hj
  case c2 => intro u hu; simp at hu; subst hu; rfl
  case c3 => unfold maxLen; omega
  case c4 => omega
  case c5 => simp; omega
  intro v1 w1 hown1 hgrow1 _
  have hcA : w1.cell? ⟨w.heap.size, 1, none⟩ = some (.int .i64 a) := hgrow1.cell (by simp [go_sem]) (by simp [Value.ownBlock])
  have hcB : w1.cell? ⟨w.heap.size, 2, none⟩ = some (.int .i64 b) := hgrow1.cell (by simp [go_sem]) (by simp [Value.ownBlock])
  have hb1 : Below w.heap.size w w1 := (((Below.refl _ w).alloc (Nat.le_refl _) _).alloc (by simp) _).grown hgrow1 (by simp; omega) (by simp [Value.ownBlock])
  have H1 : Hid (w1.ownsRow w.heap.size 3 1 v1 1 [.int .i64 c]) := hown1
  have HB : Hid (Below w.heap.size w w1) := hb1
  clear hgrow1 hown1 hb1
  go_wp2_with (at_builtin; refine wpList_append_own _ rfl _ _ 28 rfl w.heap.size 3 i0 _ 1 8 Try.underlying28 hi hz0 hz1 hz2 rfl (by decide) _ _ _ rfl (H1.out.alloc _) ⟨w1.heap.size, 0, none⟩ 1 1 [.int .i64 b] rfl rfl ?c1 ?c2 ?c3 ?c4 ?c5 ?_)
  case c1 => intro j u hj; rw [show (⟨w1.heap.size, 0, none⟩ : Addr).add j = ⟨w1.heap.size, j, none⟩ from by cases j <;> simp [Addr.add]]; exact new_cell1 w1 #[.int .i64 b] 3 j u (by simpa using hj)
  case c2 => intro u hu; simp at hu; subst hu; rfl
  case c3 => unfold maxLen; omega
  case c4 => omega
  case c5 => have := HB.out.size; simp; omega
  intro v2 w2 hown2 hgrow2 _
  have HB2 : Hid (Below w.heap.size w w2) := (HB.out.alloc HB.out.size _).grown hgrow2 (by have := HB.out.size; simp; omega) (fun q hq => (H1.out.lt q hq).1)
  have H2 : Hid (w2.ownsRow w.heap.size 3 1 v2 2 ([c, b].map encI)) := hown2
  clear hown2 hgrow2
  go_wp2_with (go_at_call 25; refine (rising_own H2.out (by simp)).mono ?_; rintro e w9 ⟨v9, rfl, h9, b9⟩)
  go_ret
  refine ⟨v9, rfl, ?_, HB2.out.trans b9⟩
  exact h9
set_option maxHeartbeats 1000000 in
theorem reads_2 (a b c imm : Int) (w : World) : Calls Try.prog 15 #[.agg #[.int .i64 2, .int .i64 a, .int .i64 b, .int .i64 c, .int .i64 imm]] w fun e w' => ∃ v, e = .returned v ∧ IsInts w' w.heap.size v (readL 2 a b c) ∧ Below w.heap.size w w' := by
  obtain ⟨i0, hi, hz0, hz1, hz2⟩ := info_parts info3
  go_enter Try.func15, Try.ntmps15
  go_wp2_with (at_builtin; refine wpList_append_own _ rfl _ _ 28 rfl w.heap.size 3 i0 _ 1 8 Try.underlying28 hi hz0 hz1 hz2 rfl (by decide) _ _ _ rfl ((World.ownsRow_nil w w.heap.size 3 1).alloc _ |>.alloc _) ⟨w.heap.size + 1, 0, none⟩ 1 1 [.int .i64 c] rfl rfl ?c1 ?c2 ?c3 ?c4 ?c5 ?_)
  case c1 => intro j u hj; exact new2_cell1 _ _ _ _ j u hj
  case c2 => intro u hu; simp at hu; subst hu; rfl
  case c3 => unfold maxLen; omega
  case c4 => omega
  case c5 => simp; omega
  intro v1 w1 hown1 hgrow1 _
  have hcA : w1.cell? ⟨w.heap.size, 1, none⟩ = some (.int .i64 a) := hgrow1.cell (by simp [go_sem]) (by simp [Value.ownBlock])
  have hcB : w1.cell? ⟨w.heap.size, 2, none⟩ = some (.int .i64 b) := hgrow1.cell (by simp [go_sem]) (by simp [Value.ownBlock])
  have hb1 : Below w.heap.size w w1 := (((Below.refl _ w).alloc (Nat.le_refl _) _).alloc (by simp) _).grown hgrow1 (by simp; omega) (by simp [Value.ownBlock])
  have H1 : Hid (w1.ownsRow w.heap.size 3 1 v1 1 [.int .i64 c]) := hown1
  have HB : Hid (Below w.heap.size w w1) := hb1
  clear hgrow1 hown1 hb1
  go_wp2_with (at_builtin; refine wpList_append_own _ rfl _ _ 28 rfl w.heap.size 3 i0 _ 1 8 Try.underlying28 hi hz0 hz1 hz2 rfl (by decide) _ _ _ rfl (H1.out.alloc _) ⟨w1.heap.size, 0, none⟩ 1 1 [.int .i64 b] rfl rfl ?c1 ?c2 ?c3 ?c4 ?c5 ?_)
  case c1 => intro j u hj; rw [show (⟨w1.heap.size, 0, none⟩ : Addr).add j = ⟨w1.heap.size, j, none⟩ from by cases j <;> simp [Addr.add]]; exact new_cell1 w1 #[.int .i64 b] 3 j u (by simpa using hj)
  case c2 => intro u hu; simp at hu; subst hu; rfl
  case c3 => unfold maxLen; omega
  case c4 => omega
  case c5 => have := HB.out.size; simp; omega
  intro v2 w2 hown2 hgrow2 _
  have HB2 : Hid (Below w.heap.size w w2) := (HB.out.alloc HB.out.size _).grown hgrow2 (by have := HB.out.size; simp; omega) (fun q hq => (H1.out.lt q hq).1)
  have H2 : Hid (w2.ownsRow w.heap.size 3 1 v2 2 ([c, b].map encI)) := hown2
  clear hown2 hgrow2
  go_wp2_with (go_at_call 25; refine (rising_own H2.out (by simp)).mono ?_; rintro e w9 ⟨v9, rfl, h9, b9⟩)
  go_ret
  refine ⟨v9, rfl, ?_, HB2.out.trans b9⟩
  exact h9
set_option maxHeartbeats 1000000 in
theorem reads_3 (a b c imm : Int) (w : World) : Calls Try.prog 15 #[.agg #[.int .i64 3, .int .i64 a, .int .i64 b, .int .i64 c, .int .i64 imm]] w fun e w' => ∃ v, e = .returned v ∧ IsInts w' w.heap.size v (readL 3 a b c) ∧ Below w.heap.size w w' := by
  obtain ⟨i0, hi, hz0, hz1, hz2⟩ := info_parts info3
  go_enter Try.func15, Try.ntmps15
  go_wp2_with (at_builtin; refine wpList_append_own _ rfl _ _ 28 rfl w.heap.size 3 i0 _ 1 8 Try.underlying28 hi hz0 hz1 hz2 rfl (by decide) _ _ _ rfl ((World.ownsRow_nil w w.heap.size 3 1).alloc _ |>.alloc _) ⟨w.heap.size + 1, 0, none⟩ 1 1 [.int .i64 c] rfl rfl ?c1 ?c2 ?c3 ?c4 ?c5 ?_)
  case c1 => intro j u hj; exact new2_cell1 _ _ _ _ j u hj
  case c2 => intro u hu; simp at hu; subst hu; rfl
  case c3 => unfold maxLen; omega
  case c4 => omega
  case c5 => simp; omega
  intro v1 w1 hown1 hgrow1 _
  have hcA : w1.cell? ⟨w.heap.size, 1, none⟩ = some (.int .i64 a) := hgrow1.cell (by simp [go_sem]) (by simp [Value.ownBlock])
  have hcB : w1.cell? ⟨w.heap.size, 2, none⟩ = some (.int .i64 b) := hgrow1.cell (by simp [go_sem]) (by simp [Value.ownBlock])
  have hb1 : Below w.heap.size w w1 := (((Below.refl _ w).alloc (Nat.le_refl _) _).alloc (by simp) _).grown hgrow1 (by simp; omega) (by simp [Value.ownBlock])
  have H1 : Hid (w1.ownsRow w.heap.size 3 1 v1 1 [.int .i64 c]) := hown1
  have HB : Hid (Below w.heap.size w w1) := hb1
  clear hgrow1 hown1 hb1
  go_wp2_with (at_builtin; refine wpList_append_own _ rfl _ _ 28 rfl w.heap.size 3 i0 _ 1 8 Try.underlying28 hi hz0 hz1 hz2 rfl (by decide) _ _ _ rfl (H1.out.alloc _) ⟨w1.heap.size, 0, none⟩ 1 1 [.int .i64 b] rfl rfl ?c1 ?c2 ?c3 ?c4 ?c5 ?_)
  case c1 => intro j u hj; rw [show (⟨w1.heap.size, 0, none⟩ : Addr).add j = ⟨w1.heap.size, j, none⟩ from by cases j <;> simp [Addr.add]]; exact new_cell1 w1 #[.int .i64 b] 3 j u (by simpa using hj)
  case c2 => intro u hu; simp at hu; subst hu; rfl
  case c3 => unfold maxLen; omega
  case c4 => omega
  case c5 => have := HB.out.size; simp; omega
  intro v2 w2 hown2 hgrow2 _
  have HB2 : Hid (Below w.heap.size w w2) := (HB.out.alloc HB.out.size _).grown hgrow2 (by have := HB.out.size; simp; omega) (fun q hq => (H1.out.lt q hq).1)
  have H2 : Hid (w2.ownsRow w.heap.size 3 1 v2 2 ([c, b].map encI)) := hown2
  clear hown2 hgrow2
  go_wp2_with (go_at_call 25; refine (rising_own H2.out (by simp)).mono ?_; rintro e w9 ⟨v9, rfl, h9, b9⟩)
  go_ret
  refine ⟨v9, rfl, ?_, HB2.out.trans b9⟩
  exact h9
set_option maxHeartbeats 1000000 in
theorem reads_4 (a b c imm : Int) (w : World) : Calls Try.prog 15 #[.agg #[.int .i64 4, .int .i64 a, .int .i64 b, .int .i64 c, .int .i64 imm]] w fun e w' => ∃ v, e = .returned v ∧ IsInts w' w.heap.size v (readL 4 a b c) ∧ Below w.heap.size w w' := by
  obtain ⟨i0, hi, hz0, hz1, hz2⟩ := info_parts info3
  go_enter Try.func15, Try.ntmps15
  go_wp2_with (at_builtin; refine wpList_append_own _ rfl _ _ 28 rfl w.heap.size 3 i0 _ 1 8 Try.underlying28 hi hz0 hz1 hz2 rfl (by decide) _ _ _ rfl ((World.ownsRow_nil w w.heap.size 3 1).alloc _ |>.alloc _) ⟨w.heap.size + 1, 0, none⟩ 1 1 [.int .i64 c] rfl rfl ?c1 ?c2 ?c3 ?c4 ?c5 ?_)
  case c1 => intro j u hj; exact new2_cell1 _ _ _ _ j u hj
  case c2 => intro u hu; simp at hu; subst hu; rfl
  case c3 => unfold maxLen; omega
  case c4 => omega
  case c5 => simp; omega
  intro v1 w1 hown1 hgrow1 _
  have hcA : w1.cell? ⟨w.heap.size, 1, none⟩ = some (.int .i64 a) := hgrow1.cell (by simp [go_sem]) (by simp [Value.ownBlock])
  have hcB : w1.cell? ⟨w.heap.size, 2, none⟩ = some (.int .i64 b) := hgrow1.cell (by simp [go_sem]) (by simp [Value.ownBlock])
  have hb1 : Below w.heap.size w w1 := (((Below.refl _ w).alloc (Nat.le_refl _) _).alloc (by simp) _).grown hgrow1 (by simp; omega) (by simp [Value.ownBlock])
  have H1 : Hid (w1.ownsRow w.heap.size 3 1 v1 1 [.int .i64 c]) := hown1
  have HB : Hid (Below w.heap.size w w1) := hb1
  clear hgrow1 hown1 hb1
  go_wp2_with (at_builtin; refine wpList_append_own _ rfl _ _ 28 rfl w.heap.size 3 i0 _ 1 8 Try.underlying28 hi hz0 hz1 hz2 rfl (by decide) _ _ _ rfl (H1.out.alloc _) ⟨w1.heap.size, 0, none⟩ 1 1 [.int .i64 b] rfl rfl ?c1 ?c2 ?c3 ?c4 ?c5 ?_)
  case c1 => intro j u hj; rw [show (⟨w1.heap.size, 0, none⟩ : Addr).add j = ⟨w1.heap.size, j, none⟩ from by cases j <;> simp [Addr.add]]; exact new_cell1 w1 #[.int .i64 b] 3 j u (by simpa using hj)
  case c2 => intro u hu; simp at hu; subst hu; rfl
  case c3 => unfold maxLen; omega
  case c4 => omega
  case c5 => have := HB.out.size; simp; omega
  intro v2 w2 hown2 hgrow2 _
  have HB2 : Hid (Below w.heap.size w w2) := (HB.out.alloc HB.out.size _).grown hgrow2 (by have := HB.out.size; simp; omega) (fun q hq => (H1.out.lt q hq).1)
  have H2 : Hid (w2.ownsRow w.heap.size 3 1 v2 2 ([c, b].map encI)) := hown2
  clear hown2 hgrow2
  go_wp2_with (go_at_call 25; refine (rising_own H2.out (by simp)).mono ?_; rintro e w9 ⟨v9, rfl, h9, b9⟩)
  go_ret
  refine ⟨v9, rfl, ?_, HB2.out.trans b9⟩
  exact h9
set_option maxHeartbeats 1000000 in
theorem reads_5 (a b c imm : Int) (w : World) : Calls Try.prog 15 #[.agg #[.int .i64 5, .int .i64 a, .int .i64 b, .int .i64 c, .int .i64 imm]] w fun e w' => ∃ v, e = .returned v ∧ IsInts w' w.heap.size v (readL 5 a b c) ∧ Below w.heap.size w w' := by
  obtain ⟨i0, hi, hz0, hz1, hz2⟩ := info_parts info3
  go_enter Try.func15, Try.ntmps15
  go_wp2_with (at_builtin; refine wpList_append_own _ rfl _ _ 28 rfl w.heap.size 3 i0 _ 1 8 Try.underlying28 hi hz0 hz1 hz2 rfl (by decide) _ _ _ rfl ((World.ownsRow_nil w w.heap.size 3 1).alloc _ |>.alloc _) ⟨w.heap.size + 1, 0, none⟩ 1 1 [.int .i64 c] rfl rfl ?c1 ?c2 ?c3 ?c4 ?c5 ?_)
  case c1 => intro j u hj; exact new2_cell1 _ _ _ _ j u hj
  case c2 => intro u hu; simp at hu; subst hu; rfl
  case c3 => unfold maxLen; omega
  case c4 => omega
  case c5 => simp; omega
  intro v1 w1 hown1 hgrow1 _
  have hcA : w1.cell? ⟨w.heap.size, 1, none⟩ = some (.int .i64 a) := hgrow1.cell (by simp [go_sem]) (by simp [Value.ownBlock])
  have hcB : w1.cell? ⟨w.heap.size, 2, none⟩ = some (.int .i64 b) := hgrow1.cell (by simp [go_sem]) (by simp [Value.ownBlock])
  have hb1 : Below w.heap.size w w1 := (((Below.refl _ w).alloc (Nat.le_refl _) _).alloc (by simp) _).grown hgrow1 (by simp; omega) (by simp [Value.ownBlock])
  have H1 : Hid (w1.ownsRow w.heap.size 3 1 v1 1 [.int .i64 c]) := hown1
  have HB : Hid (Below w.heap.size w w1) := hb1
  clear hgrow1 hown1 hb1
  go_wp2_with (at_builtin; refine wpList_append_own _ rfl _ _ 28 rfl w.heap.size 3 i0 _ 1 8 Try.underlying28 hi hz0 hz1 hz2 rfl (by decide) _ _ _ rfl (H1.out.alloc _) ⟨w1.heap.size, 0, none⟩ 1 1 [.int .i64 b] rfl rfl ?c1 ?c2 ?c3 ?c4 ?c5 ?_)
  case c1 => intro j u hj; rw [show (⟨w1.heap.size, 0, none⟩ : Addr).add j = ⟨w1.heap.size, j, none⟩ from by cases j <;> simp [Addr.add]]; exact new_cell1 w1 #[.int .i64 b] 3 j u (by simpa using hj)
  case c2 => intro u hu; simp at hu; subst hu; rfl
  case c3 => unfold maxLen; omega
  case c4 => omega
  case c5 => have := HB.out.size; simp; omega
  intro v2 w2 hown2 hgrow2 _
  have HB2 : Hid (Below w.heap.size w w2) := (HB.out.alloc HB.out.size _).grown hgrow2 (by have := HB.out.size; simp; omega) (fun q hq => (H1.out.lt q hq).1)
  have H2 : Hid (w2.ownsRow w.heap.size 3 1 v2 2 ([c, b].map encI)) := hown2
  clear hown2 hgrow2
  go_wp2_with (go_at_call 25; refine (rising_own H2.out (by simp)).mono ?_; rintro e w9 ⟨v9, rfl, h9, b9⟩)
  go_ret
  refine ⟨v9, rfl, ?_, HB2.out.trans b9⟩
  exact h9
set_option maxHeartbeats 1000000 in
theorem reads_6 (a b c imm : Int) (w : World) : Calls Try.prog 15 #[.agg #[.int .i64 6, .int .i64 a, .int .i64 b, .int .i64 c, .int .i64 imm]] w fun e w' => ∃ v, e = .returned v ∧ IsInts w' w.heap.size v (readL 6 a b c) ∧ Below w.heap.size w w' := by
  obtain ⟨i0, hi, hz0, hz1, hz2⟩ := info_parts info3
  go_enter Try.func15, Try.ntmps15
  go_wp2_with (at_builtin; refine wpList_append_own _ rfl _ _ 28 rfl w.heap.size 3 i0 _ 1 8 Try.underlying28 hi hz0 hz1 hz2 rfl (by decide) _ _ _ rfl ((World.ownsRow_nil w w.heap.size 3 1).alloc _ |>.alloc _) ⟨w.heap.size + 1, 0, none⟩ 1 1 [.int .i64 c] rfl rfl ?c1 ?c2 ?c3 ?c4 ?c5 ?_)
  case c1 => intro j u hj; exact new2_cell1 _ _ _ _ j u hj
  case c2 => intro u hu; simp at hu; subst hu; rfl
  case c3 => unfold maxLen; omega
  case c4 => omega
  case c5 => simp; omega
  intro v1 w1 hown1 hgrow1 _
  have hcA : w1.cell? ⟨w.heap.size, 1, none⟩ = some (.int .i64 a) := hgrow1.cell (by simp [go_sem]) (by simp [Value.ownBlock])
  have hcB : w1.cell? ⟨w.heap.size, 2, none⟩ = some (.int .i64 b) := hgrow1.cell (by simp [go_sem]) (by simp [Value.ownBlock])
  have hb1 : Below w.heap.size w w1 := (((Below.refl _ w).alloc (Nat.le_refl _) _).alloc (by simp) _).grown hgrow1 (by simp; omega) (by simp [Value.ownBlock])
  have H1 : Hid (w1.ownsRow w.heap.size 3 1 v1 1 [.int .i64 c]) := hown1
  have HB : Hid (Below w.heap.size w w1) := hb1
  clear hgrow1 hown1 hb1
  go_wp2_with (at_builtin; refine wpList_append_own _ rfl _ _ 28 rfl w.heap.size 3 i0 _ 1 8 Try.underlying28 hi hz0 hz1 hz2 rfl (by decide) _ _ _ rfl (H1.out.alloc _) ⟨w1.heap.size, 0, none⟩ 1 1 [.int .i64 b] rfl rfl ?c1 ?c2 ?c3 ?c4 ?c5 ?_)
  case c1 => intro j u hj; rw [show (⟨w1.heap.size, 0, none⟩ : Addr).add j = ⟨w1.heap.size, j, none⟩ from by cases j <;> simp [Addr.add]]; exact new_cell1 w1 #[.int .i64 b] 3 j u (by simpa using hj)
  case c2 => intro u hu; simp at hu; subst hu; rfl
  case c3 => unfold maxLen; omega
  case c4 => omega
  case c5 => have := HB.out.size; simp; omega
  intro v2 w2 hown2 hgrow2 _
  have HB2 : Hid (Below w.heap.size w w2) := (HB.out.alloc HB.out.size _).grown hgrow2 (by have := HB.out.size; simp; omega) (fun q hq => (H1.out.lt q hq).1)
  have H2 : Hid (w2.ownsRow w.heap.size 3 1 v2 2 ([c, b].map encI)) := hown2
  clear hown2 hgrow2
  go_wp2_with (go_at_call 25; refine (rising_own H2.out (by simp)).mono ?_; rintro e w9 ⟨v9, rfl, h9, b9⟩)
  go_ret
  refine ⟨v9, rfl, ?_, HB2.out.trans b9⟩
  exact h9
set_option maxHeartbeats 1000000 in
theorem reads_7 (a b c imm : Int) (w : World) : Calls Try.prog 15 #[.agg #[.int .i64 7, .int .i64 a, .int .i64 b, .int .i64 c, .int .i64 imm]] w fun e w' => ∃ v, e = .returned v ∧ IsInts w' w.heap.size v (readL 7 a b c) ∧ Below w.heap.size w w' := by
  obtain ⟨i0, hi, hz0, hz1, hz2⟩ := info_parts info3
  go_enter Try.func15, Try.ntmps15
  go_wp2_with (at_builtin; refine wpList_append_own _ rfl _ _ 28 rfl w.heap.size 3 i0 _ 1 8 Try.underlying28 hi hz0 hz1 hz2 rfl (by decide) _ _ _ rfl ((World.ownsRow_nil w w.heap.size 3 1).alloc _ |>.alloc _) ⟨w.heap.size + 1, 0, none⟩ 1 1 [.int .i64 c] rfl rfl ?c1 ?c2 ?c3 ?c4 ?c5 ?_)
  case c1 => intro j u hj; exact new2_cell1 _ _ _ _ j u hj
  case c2 => intro u hu; simp at hu; subst hu; rfl
  case c3 => unfold maxLen; omega
  case c4 => omega
  case c5 => simp; omega
  intro v1 w1 hown1 hgrow1 _
  have hcA : w1.cell? ⟨w.heap.size, 1, none⟩ = some (.int .i64 a) := hgrow1.cell (by simp [go_sem]) (by simp [Value.ownBlock])
  have hcB : w1.cell? ⟨w.heap.size, 2, none⟩ = some (.int .i64 b) := hgrow1.cell (by simp [go_sem]) (by simp [Value.ownBlock])
  have hb1 : Below w.heap.size w w1 := (((Below.refl _ w).alloc (Nat.le_refl _) _).alloc (by simp) _).grown hgrow1 (by simp; omega) (by simp [Value.ownBlock])
  have H1 : Hid (w1.ownsRow w.heap.size 3 1 v1 1 [.int .i64 c]) := hown1
  have HB : Hid (Below w.heap.size w w1) := hb1
  clear hgrow1 hown1 hb1
  go_wp2_with (at_builtin; refine wpList_append_own _ rfl _ _ 28 rfl w.heap.size 3 i0 _ 1 8 Try.underlying28 hi hz0 hz1 hz2 rfl (by decide) _ _ _ rfl (H1.out.alloc _) ⟨w1.heap.size, 0, none⟩ 1 1 [.int .i64 b] rfl rfl ?c1 ?c2 ?c3 ?c4 ?c5 ?_)
  case c1 => intro j u hj; rw [show (⟨w1.heap.size, 0, none⟩ : Addr).add j = ⟨w1.heap.size, j, none⟩ from by cases j <;> simp [Addr.add]]; exact new_cell1 w1 #[.int .i64 b] 3 j u (by simpa using hj)
  case c2 => intro u hu; simp at hu; subst hu; rfl
  case c3 => unfold maxLen; omega
  case c4 => omega
  case c5 => have := HB.out.size; simp; omega
  intro v2 w2 hown2 hgrow2 _
  have HB2 : Hid (Below w.heap.size w w2) := (HB.out.alloc HB.out.size _).grown hgrow2 (by have := HB.out.size; simp; omega) (fun q hq => (H1.out.lt q hq).1)
  have H2 : Hid (w2.ownsRow w.heap.size 3 1 v2 2 ([c, b].map encI)) := hown2
  clear hown2 hgrow2
  go_wp2_with (go_at_call 25; refine (rising_own H2.out (by simp)).mono ?_; rintro e w9 ⟨v9, rfl, h9, b9⟩)
  go_ret
  refine ⟨v9, rfl, ?_, HB2.out.trans b9⟩
  exact h9
set_option maxHeartbeats 1000000 in
theorem reads_8 (a b c imm : Int) (w : World) : Calls Try.prog 15 #[.agg #[.int .i64 8, .int .i64 a, .int .i64 b, .int .i64 c, .int .i64 imm]] w fun e w' => ∃ v, e = .returned v ∧ IsInts w' w.heap.size v (readL 8 a b c) ∧ Below w.heap.size w w' := by
  obtain ⟨i0, hi, hz0, hz1, hz2⟩ := info_parts info3
  go_enter Try.func15, Try.ntmps15
  go_wp2_with (at_builtin; refine wpList_append_own _ rfl _ _ 28 rfl w.heap.size 3 i0 _ 1 8 Try.underlying28 hi hz0 hz1 hz2 rfl (by decide) _ _ _ rfl ((World.ownsRow_nil w w.heap.size 3 1).alloc _ |>.alloc _) ⟨w.heap.size + 1, 0, none⟩ 1 1 [.int .i64 b] rfl rfl ?c1 ?c2 ?c3 ?c4 ?c5 ?_)
  case c1 => intro j u hj; exact new2_cell1 _ _ _ _ j u hj
  case c2 => intro u hu; simp at hu; subst hu; rfl
  case c3 => unfold maxLen; omega
  case c4 => omega
  case c5 => simp; omega
  intro v1 w1 hown1 hgrow1 _
  have hcA : w1.cell? ⟨w.heap.size, 1, none⟩ = some (.int .i64 a) := hgrow1.cell (by simp [go_sem]) (by simp [Value.ownBlock])
  have hcB : w1.cell? ⟨w.heap.size, 2, none⟩ = some (.int .i64 b) := hgrow1.cell (by simp [go_sem]) (by simp [Value.ownBlock])
  have hb1 : Below w.heap.size w w1 := (((Below.refl _ w).alloc (Nat.le_refl _) _).alloc (by simp) _).grown hgrow1 (by simp; omega) (by simp [Value.ownBlock])
  have H1 : Hid (w1.ownsRow w.heap.size 3 1 v1 1 [.int .i64 b]) := hown1
  have HB : Hid (Below w.heap.size w w1) := hb1
  clear hgrow1 hown1 hb1
  go_wp2_with (go_at_call 25; refine (rising_own (show w1.ownsRow w.heap.size 3 1 v1 1 ([b].map encI) from H1.out) (by simp)).mono ?_; rintro e w9 ⟨v9, rfl, h9, b9⟩)
  go_ret
  refine ⟨v9, rfl, ?_, HB.out.trans b9⟩
  exact h9
set_option maxHeartbeats 1000000 in
theorem reads_9 (a b c imm : Int) (w : World) : Calls Try.prog 15 #[.agg #[.int .i64 9, .int .i64 a, .int .i64 b, .int .i64 c, .int .i64 imm]] w fun e w' => ∃ v, e = .returned v ∧ IsInts w' w.heap.size v (readL 9 a b c) ∧ Below w.heap.size w w' := by
  obtain ⟨i0, hi, hz0, hz1, hz2⟩ := info_parts info3
  go_enter Try.func15, Try.ntmps15
  have hn : ∀ W : World, W.ownsRow w.heap.size 3 1 (.slice none 0 0) 0 (([] : List Int).map encI) := fun W => World.ownsRow_nil W w.heap.size 3 1
  go_wp2_with (go_at_call 25; refine (rising_own (hn _) (by simp)).mono ?_; rintro e w9 ⟨v9, rfl, h9, b9⟩)
  go_ret
  refine ⟨v9, rfl, ?_, ((Below.refl _ w).alloc (Nat.le_refl _) _).trans b9⟩
  exact h9
set_option maxHeartbeats 1000000 in
theorem reads_10 (a b c imm : Int) (w : World) : Calls Try.prog 15 #[.agg #[.int .i64 10, .int .i64 a, .int .i64 b, .int .i64 c, .int .i64 imm]] w fun e w' => ∃ v, e = .returned v ∧ IsInts w' w.heap.size v (readL 10 a b c) ∧ Below w.heap.size w w' := by
  obtain ⟨i0, hi, hz0, hz1, hz2⟩ := info_parts info3
  go_enter Try.func15, Try.ntmps15
  go_wp2_with (at_builtin; refine wpList_append_own _ rfl _ _ 28 rfl w.heap.size 3 i0 _ 1 8 Try.underlying28 hi hz0 hz1 hz2 rfl (by decide) _ _ _ rfl ((World.ownsRow_nil w w.heap.size 3 1).alloc _ |>.alloc _) ⟨w.heap.size + 1, 0, none⟩ 1 1 [.int .i64 b] rfl rfl ?c1 ?c2 ?c3 ?c4 ?c5 ?_)
  case c1 => intro j u hj; exact new2_cell1 _ _ _ _ j u hj
  case c2 => intro u hu; simp at hu; subst hu; rfl
  case c3 => unfold maxLen; omega
  case c4 => omega
  case c5 => simp; omega
  intro v1 w1 hown1 hgrow1 _
  have hcA : w1.cell? ⟨w.heap.size, 1, none⟩ = some (.int .i64 a) := hgrow1.cell (by simp [go_sem]) (by simp [Value.ownBlock])
  have hcB : w1.cell? ⟨w.heap.size, 2, none⟩ = some (.int .i64 b) := hgrow1.cell (by simp [go_sem]) (by simp [Value.ownBlock])
  have hb1 : Below w.heap.size w w1 := (((Below.refl _ w).alloc (Nat.le_refl _) _).alloc (by simp) _).grown hgrow1 (by simp; omega) (by simp [Value.ownBlock])
  have H1 : Hid (w1.ownsRow w.heap.size 3 1 v1 1 [.int .i64 b]) := hown1
  have HB : Hid (Below w.heap.size w w1) := hb1
  clear hgrow1 hown1 hb1
  go_wp2_with (go_at_call 25; refine (rising_own (show w1.ownsRow w.heap.size 3 1 v1 1 ([b].map encI) from H1.out) (by simp)).mono ?_; rintro e w9 ⟨v9, rfl, h9, b9⟩)
  go_ret
  refine ⟨v9, rfl, ?_, HB.out.trans b9⟩
  exact h9
set_option maxHeartbeats 1000000 in
theorem reads_11 (a b c imm : Int) (w : World) : Calls Try.prog 15 #[.agg #[.int .i64 11, .int .i64 a, .int .i64 b, .int .i64 c, .int .i64 imm]] w fun e w' => ∃ v, e = .returned v ∧ IsInts w' w.heap.size v (readL 11 a b c) ∧ Below w.heap.size w w' := by
  obtain ⟨i0, hi, hz0, hz1, hz2⟩ := info_parts info3
  go_enter Try.func15, Try.ntmps15
  go_wp2_with (at_builtin; refine wpList_append_own _ rfl _ _ 28 rfl w.heap.size 3 i0 _ 1 8 Try.underlying28 hi hz0 hz1 hz2 rfl (by decide) _ _ _ rfl ((World.ownsRow_nil w w.heap.size 3 1).alloc _ |>.alloc _) ⟨w.heap.size + 1, 0, none⟩ 1 1 [.int .i64 b] rfl rfl ?c1 ?c2 ?c3 ?c4 ?c5 ?_)
  case c1 => intro j u hj; exact new2_cell1 _ _ _ _ j u hj
  case c2 => intro u hu; simp at hu; subst hu; rfl
  case c3 => unfold maxLen; omega
  case c4 => omega
  case c5 => simp; omega
  intro v1 w1 hown1 hgrow1 _
  have hcA : w1.cell? ⟨w.heap.size, 1, none⟩ = some (.int .i64 a) := hgrow1.cell (by simp [go_sem]) (by simp [Value.ownBlock])
  have hcB : w1.cell? ⟨w.heap.size, 2, none⟩ = some (.int .i64 b) := hgrow1.cell (by simp [go_sem]) (by simp [Value.ownBlock])
  have hb1 : Below w.heap.size w w1 := (((Below.refl _ w).alloc (Nat.le_refl _) _).alloc (by simp) _).grown hgrow1 (by simp; omega) (by simp [Value.ownBlock])
  have H1 : Hid (w1.ownsRow w.heap.size 3 1 v1 1 [.int .i64 b]) := hown1
  have HB : Hid (Below w.heap.size w w1) := hb1
  clear hgrow1 hown1 hb1
  go_wp2_with (go_at_call 25; refine (rising_own (show w1.ownsRow w.heap.size 3 1 v1 1 ([b].map encI) from H1.out) (by simp)).mono ?_; rintro e w9 ⟨v9, rfl, h9, b9⟩)
  go_ret
  refine ⟨v9, rfl, ?_, HB.out.trans b9⟩
  exact h9
set_option maxHeartbeats 1000000 in
theorem reads_12 (a b c imm : Int) (w : World) : Calls Try.prog 15 #[.agg #[.int .i64 12, .int .i64 a, .int .i64 b, .int .i64 c, .int .i64 imm]] w fun e w' => ∃ v, e = .returned v ∧ IsInts w' w.heap.size v (readL 12 a b c) ∧ Below w.heap.size w w' := by
  obtain ⟨i0, hi, hz0, hz1, hz2⟩ := info_parts info3
  go_enter Try.func15, Try.ntmps15
  go_wp2_with (at_builtin; refine wpList_append_own _ rfl _ _ 28 rfl w.heap.size 3 i0 _ 1 8 Try.underlying28 hi hz0 hz1 hz2 rfl (by decide) _ _ _ rfl ((World.ownsRow_nil w w.heap.size 3 1).alloc _ |>.alloc _) ⟨w.heap.size + 1, 0, none⟩ 1 1 [.int .i64 b] rfl rfl ?c1 ?c2 ?c3 ?c4 ?c5 ?_)
  case c1 => intro j u hj; exact new2_cell1 _ _ _ _ j u hj
  case c2 => intro u hu; simp at hu; subst hu; rfl
  case c3 => unfold maxLen; omega
  case c4 => omega
  case c5 => simp; omega
  intro v1 w1 hown1 hgrow1 _
  have hcA : w1.cell? ⟨w.heap.size, 1, none⟩ = some (.int .i64 a) := hgrow1.cell (by simp [go_sem]) (by simp [Value.ownBlock])
  have hcB : w1.cell? ⟨w.heap.size, 2, none⟩ = some (.int .i64 b) := hgrow1.cell (by simp [go_sem]) (by simp [Value.ownBlock])
  have hb1 : Below w.heap.size w w1 := (((Below.refl _ w).alloc (Nat.le_refl _) _).alloc (by simp) _).grown hgrow1 (by simp; omega) (by simp [Value.ownBlock])
  have H1 : Hid (w1.ownsRow w.heap.size 3 1 v1 1 [.int .i64 b]) := hown1
  have HB : Hid (Below w.heap.size w w1) := hb1
  clear hgrow1 hown1 hb1
  go_wp2_with (at_builtin; refine wpList_append_own _ rfl _ _ 28 rfl w.heap.size 3 i0 _ 1 8 Try.underlying28 hi hz0 hz1 hz2 rfl (by decide) _ _ _ rfl (H1.out.alloc _) ⟨w1.heap.size, 0, none⟩ 1 1 [.int .i64 a] rfl rfl ?c1 ?c2 ?c3 ?c4 ?c5 ?_)
  case c1 => intro j u hj; rw [show (⟨w1.heap.size, 0, none⟩ : Addr).add j = ⟨w1.heap.size, j, none⟩ from by cases j <;> simp [Addr.add]]; exact new_cell1 w1 #[.int .i64 a] 3 j u (by simpa using hj)
  case c2 => intro u hu; simp at hu; subst hu; rfl
  case c3 => unfold maxLen; omega
  case c4 => omega
  case c5 => have := HB.out.size; simp; omega
  intro v2 w2 hown2 hgrow2 _
  have HB2 : Hid (Below w.heap.size w w2) := (HB.out.alloc HB.out.size _).grown hgrow2 (by have := HB.out.size; simp; omega) (fun q hq => (H1.out.lt q hq).1)
  have H2 : Hid (w2.ownsRow w.heap.size 3 1 v2 2 ([b, a].map encI)) := hown2
  clear hown2 hgrow2
  go_wp2_with (go_at_call 25; refine (rising_own H2.out (by simp)).mono ?_; rintro e w9 ⟨v9, rfl, h9, b9⟩)
  go_ret
  refine ⟨v9, rfl, ?_, HB2.out.trans b9⟩
  exact h9
set_option maxHeartbeats 1000000 in
theorem reads_13 (a b c imm : Int) (w : World) : Calls Try.prog 15 #[.agg #[.int .i64 13, .int .i64 a, .int .i64 b, .int .i64 c, .int .i64 imm]] w fun e w' => ∃ v, e = .returned v ∧ IsInts w' w.heap.size v (readL 13 a b c) ∧ Below w.heap.size w w' := by
  obtain ⟨i0, hi, hz0, hz1, hz2⟩ := info_parts info3
  go_enter Try.func15, Try.ntmps15
  go_wp2_with (at_builtin; refine wpList_append_own _ rfl _ _ 28 rfl w.heap.size 3 i0 _ 1 8 Try.underlying28 hi hz0 hz1 hz2 rfl (by decide) _ _ _ rfl ((World.ownsRow_nil w w.heap.size 3 1).alloc _ |>.alloc _) ⟨w.heap.size + 1, 0, none⟩ 1 1 [.int .i64 b] rfl rfl ?c1 ?c2 ?c3 ?c4 ?c5 ?_)
  case c1 => intro j u hj; exact new2_cell1 _ _ _ _ j u hj
  case c2 => intro u hu; simp at hu; subst hu; rfl
  case c3 => unfold maxLen; omega
  case c4 => omega
  case c5 => simp; omega
  intro v1 w1 hown1 hgrow1 _
  have hcA : w1.cell? ⟨w.heap.size, 1, none⟩ = some (.int .i64 a) := hgrow1.cell (by simp [go_sem]) (by simp [Value.ownBlock])
  have hcB : w1.cell? ⟨w.heap.size, 2, none⟩ = some (.int .i64 b) := hgrow1.cell (by simp [go_sem]) (by simp [Value.ownBlock])
  have hb1 : Below w.heap.size w w1 := (((Below.refl _ w).alloc (Nat.le_refl _) _).alloc (by simp) _).grown hgrow1 (by simp; omega) (by simp [Value.ownBlock])
  have H1 : Hid (w1.ownsRow w.heap.size 3 1 v1 1 [.int .i64 b]) := hown1
  have HB : Hid (Below w.heap.size w w1) := hb1
  clear hgrow1 hown1 hb1
  go_wp2_with (go_at_call 25; refine (rising_own (show w1.ownsRow w.heap.size 3 1 v1 1 ([b].map encI) from H1.out) (by simp)).mono ?_; rintro e w9 ⟨v9, rfl, h9, b9⟩)
  go_ret
  refine ⟨v9, rfl, ?_, HB.out.trans b9⟩
  exact h9
set_option maxHeartbeats 1000000 in
theorem reads_14 (a b c imm : Int) (w : World) : Calls Try.prog 15 #[.agg #[.int .i64 14, .int .i64 a, .int .i64 b, .int .i64 c, .int .i64 imm]] w fun e w' => ∃ v, e = .returned v ∧ IsInts w' w.heap.size v (readL 14 a b c) ∧ Below w.heap.size w w' := by
  obtain ⟨i0, hi, hz0, hz1, hz2⟩ := info_parts info3
  go_enter Try.func15, Try.ntmps15
  go_wp2_with (at_builtin; refine wpList_append_own _ rfl _ _ 28 rfl w.heap.size 3 i0 _ 1 8 Try.underlying28 hi hz0 hz1 hz2 rfl (by decide) _ _ _ rfl ((World.ownsRow_nil w w.heap.size 3 1).alloc _ |>.alloc _) ⟨w.heap.size + 1, 0, none⟩ 1 1 [.int .i64 b] rfl rfl ?c1 ?c2 ?c3 ?c4 ?c5 ?_)
  case c1 => intro j u hj; exact new2_cell1 _ _ _ _ j u hj
  case c2 => intro u hu; simp at hu; subst hu; rfl
  case c3 => unfold maxLen; omega
  case c4 => omega
  case c5 => simp; omega
  intro v1 w1 hown1 hgrow1 _
  have hcA : w1.cell? ⟨w.heap.size, 1, none⟩ = some (.int .i64 a) := hgrow1.cell (by simp [go_sem]) (by simp [Value.ownBlock])
  have hcB : w1.cell? ⟨w.heap.size, 2, none⟩ = some (.int .i64 b) := hgrow1.cell (by simp [go_sem]) (by simp [Value.ownBlock])
  have hb1 : Below w.heap.size w w1 := (((Below.refl _ w).alloc (Nat.le_refl _) _).alloc (by simp) _).grown hgrow1 (by simp; omega) (by simp [Value.ownBlock])
  have H1 : Hid (w1.ownsRow w.heap.size 3 1 v1 1 [.int .i64 b]) := hown1
  have HB : Hid (Below w.heap.size w w1) := hb1
  clear hgrow1 hown1 hb1
  go_wp2_with (at_builtin; refine wpList_append_own _ rfl _ _ 28 rfl w.heap.size 3 i0 _ 1 8 Try.underlying28 hi hz0 hz1 hz2 rfl (by decide) _ _ _ rfl (H1.out.alloc _) ⟨w1.heap.size, 0, none⟩ 1 1 [.int .i64 a] rfl rfl ?c1 ?c2 ?c3 ?c4 ?c5 ?_)
  case c1 => intro j u hj; rw [show (⟨w1.heap.size, 0, none⟩ : Addr).add j = ⟨w1.heap.size, j, none⟩ from by cases j <;> simp [Addr.add]]; exact new_cell1 w1 #[.int .i64 a] 3 j u (by simpa using hj)
  case c2 => intro u hu; simp at hu; subst hu; rfl
  case c3 => unfold maxLen; omega
  case c4 => omega
  case c5 => have := HB.out.size; simp; omega
  intro v2 w2 hown2 hgrow2 _
  have HB2 : Hid (Below w.heap.size w w2) := (HB.out.alloc HB.out.size _).grown hgrow2 (by have := HB.out.size; simp; omega) (fun q hq => (H1.out.lt q hq).1)
  have H2 : Hid (w2.ownsRow w.heap.size 3 1 v2 2 ([b, a].map encI)) := hown2
  clear hown2 hgrow2
  go_wp2_with (go_at_call 25; refine (rising_own H2.out (by simp)).mono ?_; rintro e w9 ⟨v9, rfl, h9, b9⟩)
  go_ret
  refine ⟨v9, rfl, ?_, HB2.out.trans b9⟩
  exact h9
set_option maxHeartbeats 1000000 in
theorem reads_15 (a b c imm : Int) (w : World) : Calls Try.prog 15 #[.agg #[.int .i64 15, .int .i64 a, .int .i64 b, .int .i64 c, .int .i64 imm]] w fun e w' => ∃ v, e = .returned v ∧ IsInts w' w.heap.size v (readL 15 a b c) ∧ Below w.heap.size w w' := by
  obtain ⟨i0, hi, hz0, hz1, hz2⟩ := info_parts info3
  go_enter Try.func15, Try.ntmps15
  go_wp2_with (at_builtin; refine wpList_append_own _ rfl _ _ 28 rfl w.heap.size 3 i0 _ 1 8 Try.underlying28 hi hz0 hz1 hz2 rfl (by decide) _ _ _ rfl ((World.ownsRow_nil w w.heap.size 3 1).alloc _ |>.alloc _) ⟨w.heap.size + 1, 0, none⟩ 1 1 [.int .i64 b] rfl rfl ?c1 ?c2 ?c3 ?c4 ?c5 ?_)
  case c1 => intro j u hj; exact new2_cell1 _ _ _ _ j u hj
  case c2 => intro u hu; simp at hu; subst hu; rfl
  case c3 => unfold maxLen; omega
  case c4 => omega
  case c5 => simp; omega
  intro v1 w1 hown1 hgrow1 _
  have hcA : w1.cell? ⟨w.heap.size, 1, none⟩ = some (.int .i64 a) := hgrow1.cell (by simp [go_sem]) (by simp [Value.ownBlock])
  have hcB : w1.cell? ⟨w.heap.size, 2, none⟩ = some (.int .i64 b) := hgrow1.cell (by simp [go_sem]) (by simp [Value.ownBlock])
  have hb1 : Below w.heap.size w w1 := (((Below.refl _ w).alloc (Nat.le_refl _) _).alloc (by simp) _).grown hgrow1 (by simp; omega) (by simp [Value.ownBlock])
  have H1 : Hid (w1.ownsRow w.heap.size 3 1 v1 1 [.int .i64 b]) := hown1
  have HB : Hid (Below w.heap.size w w1) := hb1
  clear hgrow1 hown1 hb1
  go_wp2_with (at_builtin; refine wpList_append_own _ rfl _ _ 28 rfl w.heap.size 3 i0 _ 1 8 Try.underlying28 hi hz0 hz1 hz2 rfl (by decide) _ _ _ rfl (H1.out.alloc _) ⟨w1.heap.size, 0, none⟩ 1 1 [.int .i64 a] rfl rfl ?c1 ?c2 ?c3 ?c4 ?c5 ?_)
  case c1 => intro j u hj; rw [show (⟨w1.heap.size, 0, none⟩ : Addr).add j = ⟨w1.heap.size, j, none⟩ from by cases j <;> simp [Addr.add]]; exact new_cell1 w1 #[.int .i64 a] 3 j u (by simpa using hj)
  case c2 => intro u hu; simp at hu; subst hu; rfl
  case c3 => unfold maxLen; omega
  case c4 => omega
  case c5 => have := HB.out.size; simp; omega
  intro v2 w2 hown2 hgrow2 _
  have HB2 : Hid (Below w.heap.size w w2) := (HB.out.alloc HB.out.size _).grown hgrow2 (by have := HB.out.size; simp; omega) (fun q hq => (H1.out.lt q hq).1)
  have H2 : Hid (w2.ownsRow w.heap.size 3 1 v2 2 ([b, a].map encI)) := hown2
  clear hown2 hgrow2
  go_wp2_with (go_at_call 25; refine (rising_own H2.out (by simp)).mono ?_; rintro e w9 ⟨v9, rfl, h9, b9⟩)
  go_ret
  refine ⟨v9, rfl, ?_, HB2.out.trans b9⟩
  exact h9
set_option maxHeartbeats 1000000 in
theorem reads_16 (a b c imm : Int) (w : World) : Calls Try.prog 15 #[.agg #[.int .i64 16, .int .i64 a, .int .i64 b, .int .i64 c, .int .i64 imm]] w fun e w' => ∃ v, e = .returned v ∧ IsInts w' w.heap.size v (readL 16 a b c) ∧ Below w.heap.size w w' := by
  obtain ⟨i0, hi, hz0, hz1, hz2⟩ := info_parts info3
  go_enter Try.func15, Try.ntmps15
  go_wp2_with (at_builtin; refine wpList_append_own _ rfl _ _ 28 rfl w.heap.size 3 i0 _ 1 8 Try.underlying28 hi hz0 hz1 hz2 rfl (by decide) _ _ _ rfl ((World.ownsRow_nil w w.heap.size 3 1).alloc _ |>.alloc _) ⟨w.heap.size + 1, 0, none⟩ 1 1 [.int .i64 b] rfl rfl ?c1 ?c2 ?c3 ?c4 ?c5 ?_)
  case c1 => intro j u hj; exact new2_cell1 _ _ _ _ j u hj
  case c2 => intro u hu; simp at hu; subst hu; rfl
  case c3 => unfold maxLen; omega
  case c4 => omega
  case c5 => simp; omega
  intro v1 w1 hown1 hgrow1 _
  have hcA : w1.cell? ⟨w.heap.size, 1, none⟩ = some (.int .i64 a) := hgrow1.cell (by simp [go_sem]) (by simp [Value.ownBlock])
  have hcB : w1.cell? ⟨w.heap.size, 2, none⟩ = some (.int .i64 b) := hgrow1.cell (by simp [go_sem]) (by simp [Value.ownBlock])
  have hb1 : Below w.heap.size w w1 := (((Below.refl _ w).alloc (Nat.le_refl _) _).alloc (by simp) _).grown hgrow1 (by simp; omega) (by simp [Value.ownBlock])
  have H1 : Hid (w1.ownsRow w.heap.size 3 1 v1 1 [.int .i64 b]) := hown1
  have HB : Hid (Below w.heap.size w w1) := hb1
  clear hgrow1 hown1 hb1
  go_wp2_with (at_builtin; refine wpList_append_own _ rfl _ _ 28 rfl w.heap.size 3 i0 _ 1 8 Try.underlying28 hi hz0 hz1 hz2 rfl (by decide) _ _ _ rfl (H1.out.alloc _) ⟨w1.heap.size, 0, none⟩ 1 1 [.int .i64 a] rfl rfl ?c1 ?c2 ?c3 ?c4 ?c5 ?_)
  case c1 => intro j u hj; rw [show (⟨w1.heap.size, 0, none⟩ : Addr).add j = ⟨w1.heap.size, j, none⟩ from by cases j <;> simp [Addr.add]]; exact new_cell1 w1 #[.int .i64 a] 3 j u (by simpa using hj)
  case c2 => intro u hu; simp at hu; subst hu; rfl
  case c3 => unfold maxLen; omega
  case c4 => omega
  case c5 => have := HB.out.size; simp; omega
  intro v2 w2 hown2 hgrow2 _
  have HB2 : Hid (Below w.heap.size w w2) := (HB.out.alloc HB.out.size _).grown hgrow2 (by have := HB.out.size; simp; omega) (fun q hq => (H1.out.lt q hq).1)
  have H2 : Hid (w2.ownsRow w.heap.size 3 1 v2 2 ([b, a].map encI)) := hown2
  clear hown2 hgrow2
  go_wp2_with (go_at_call 25; refine (rising_own H2.out (by simp)).mono ?_; rintro e w9 ⟨v9, rfl, h9, b9⟩)
  go_ret
  refine ⟨v9, rfl, ?_, HB2.out.trans b9⟩
  exact h9
set_option maxHeartbeats 1000000 in
theorem reads_17 (a b c imm : Int) (w : World) : Calls Try.prog 15 #[.agg #[.int .i64 17, .int .i64 a, .int .i64 b, .int .i64 c, .int .i64 imm]] w fun e w' => ∃ v, e = .returned v ∧ IsInts w' w.heap.size v (readL 17 a b c) ∧ Below w.heap.size w w' := by
  obtain ⟨i0, hi, hz0, hz1, hz2⟩ := info_parts info3
  go_enter Try.func15, Try.ntmps15
  go_wp2_with (at_builtin; refine wpList_append_own _ rfl _ _ 28 rfl w.heap.size 3 i0 _ 1 8 Try.underlying28 hi hz0 hz1 hz2 rfl (by decide) _ _ _ rfl ((World.ownsRow_nil w w.heap.size 3 1).alloc _ |>.alloc _) ⟨w.heap.size + 1, 0, none⟩ 1 1 [.int .i64 b] rfl rfl ?c1 ?c2 ?c3 ?c4 ?c5 ?_)
  case c1 => intro j u hj; exact new2_cell1 _ _ _ _ j u hj
  case c2 => intro u hu; simp at hu; subst hu; rfl
  case c3 => unfold maxLen; omega
  case c4 => omega
  case c5 => simp; omega
  intro v1 w1 hown1 hgrow1 _
  have hcA : w1.cell? ⟨w.heap.size, 1, none⟩ = some (.int .i64 a) := hgrow1.cell (by simp [go_sem]) (by simp [Value.ownBlock])
  have hcB : w1.cell? ⟨w.heap.size, 2, none⟩ = some (.int .i64 b) := hgrow1.cell (by simp [go_sem]) (by simp [Value.ownBlock])
  have hb1 : Below w.heap.size w w1 := (((Below.refl _ w).alloc (Nat.le_refl _) _).alloc (by simp) _).grown hgrow1 (by simp; omega) (by simp [Value.ownBlock])
  have H1 : Hid (w1.ownsRow w.heap.size 3 1 v1 1 [.int .i64 b]) := hown1
  have HB : Hid (Below w.heap.size w w1) := hb1
  clear hgrow1 hown1 hb1
  go_wp2_with (at_builtin; refine wpList_append_own _ rfl _ _ 28 rfl w.heap.size 3 i0 _ 1 8 Try.underlying28 hi hz0 hz1 hz2 rfl (by decide) _ _ _ rfl (H1.out.alloc _) ⟨w1.heap.size, 0, none⟩ 1 1 [.int .i64 a] rfl rfl ?c1 ?c2 ?c3 ?c4 ?c5 ?_)
  case c1 => intro j u hj; rw [show (⟨w1.heap.size, 0, none⟩ : Addr).add j = ⟨w1.heap.size, j, none⟩ from by cases j <;> simp [Addr.add]]; exact new_cell1 w1 #[.int .i64 a] 3 j u (by simpa using hj)
  case c2 => intro u hu; simp at hu; subst hu; rfl
  case c3 => unfold maxLen; omega
  case c4 => omega
  case c5 => have := HB.out.size; simp; omega
  intro v2 w2 hown2 hgrow2 _
  have HB2 : Hid (Below w.heap.size w w2) := (HB.out.alloc HB.out.size _).grown hgrow2 (by have := HB.out.size; simp; omega) (fun q hq => (H1.out.lt q hq).1)
  have H2 : Hid (w2.ownsRow w.heap.size 3 1 v2 2 ([b, a].map encI)) := hown2
  clear hown2 hgrow2
  go_wp2_with (go_at_call 25; refine (rising_own H2.out (by simp)).mono ?_; rintro e w9 ⟨v9, rfl, h9, b9⟩)
  go_ret
  refine ⟨v9, rfl, ?_, HB2.out.trans b9⟩
  exact h9
set_option maxHeartbeats 1000000 in
theorem reads_18 (a b c imm : Int) (w : World) : Calls Try.prog 15 #[.agg #[.int .i64 18, .int .i64 a, .int .i64 b, .int .i64 c, .int .i64 imm]] w fun e w' => ∃ v, e = .returned v ∧ IsInts w' w.heap.size v (readL 18 a b c) ∧ Below w.heap.size w w' := by
  obtain ⟨i0, hi, hz0, hz1, hz2⟩ := info_parts info3
  go_enter Try.func15, Try.ntmps15
  go_wp2_with (at_builtin; refine wpList_append_own _ rfl _ _ 28 rfl w.heap.size 3 i0 _ 1 8 Try.underlying28 hi hz0 hz1 hz2 rfl (by decide) _ _ _ rfl ((World.ownsRow_nil w w.heap.size 3 1).alloc _ |>.alloc _) ⟨w.heap.size + 1, 0, none⟩ 1 1 [.int .i64 b] rfl rfl ?c1 ?c2 ?c3 ?c4 ?c5 ?_)
  case c1 => intro j u hj; exact new2_cell1 _ _ _ _ j u hj
  case c2 => intro u hu; simp at hu; subst hu; rfl
  case c3 => unfold maxLen; omega
  case c4 => omega
  case c5 => simp; omega
  intro v1 w1 hown1 hgrow1 _
  have hcA : w1.cell? ⟨w.heap.size, 1, none⟩ = some (.int .i64 a) := hgrow1.cell (by simp [go_sem]) (by simp [Value.ownBlock])
  have hcB : w1.cell? ⟨w.heap.size, 2, none⟩ = some (.int .i64 b) := hgrow1.cell (by simp [go_sem]) (by simp [Value.ownBlock])
  have hb1 : Below w.heap.size w w1 := (((Below.refl _ w).alloc (Nat.le_refl _) _).alloc (by simp) _).grown hgrow1 (by simp; omega) (by simp [Value.ownBlock])
  have H1 : Hid (w1.ownsRow w.heap.size 3 1 v1 1 [.int .i64 b]) := hown1
  have HB : Hid (Below w.heap.size w w1) := hb1
  clear hgrow1 hown1 hb1
  go_wp2_with (at_builtin; refine wpList_append_own _ rfl _ _ 28 rfl w.heap.size 3 i0 _ 1 8 Try.underlying28 hi hz0 hz1 hz2 rfl (by decide) _ _ _ rfl (H1.out.alloc _) ⟨w1.heap.size, 0, none⟩ 1 1 [.int .i64 a] rfl rfl ?c1 ?c2 ?c3 ?c4 ?c5 ?_)
  case c1 => intro j u hj; rw [show (⟨w1.heap.size, 0, none⟩ : Addr).add j = ⟨w1.heap.size, j, none⟩ from by cases j <;> simp [Addr.add]]; exact new_cell1 w1 #[.int .i64 a] 3 j u (by simpa using hj)
  case c2 => intro u hu; simp at hu; subst hu; rfl
  case c3 => unfold maxLen; omega
  case c4 => omega
  case c5 => have := HB.out.size; simp; omega
  intro v2 w2 hown2 hgrow2 _
  have HB2 : Hid (Below w.heap.size w w2) := (HB.out.alloc HB.out.size _).grown hgrow2 (by have := HB.out.size; simp; omega) (fun q hq => (H1.out.lt q hq).1)
  have H2 : Hid (w2.ownsRow w.heap.size 3 1 v2 2 ([b, a].map encI)) := hown2
  clear hown2 hgrow2
  go_wp2_with (go_at_call 25; refine (rising_own H2.out (by simp)).mono ?_; rintro e w9 ⟨v9, rfl, h9, b9⟩)
  go_ret
  refine ⟨v9, rfl, ?_, HB2.out.trans b9⟩
  exact h9
set_option maxHeartbeats 1000000 in
theorem reads_19 (a b c imm : Int) (w : World) : Calls Try.prog 15 #[.agg #[.int .i64 19, .int .i64 a, .int .i64 b, .int .i64 c, .int .i64 imm]] w fun e w' => ∃ v, e = .returned v ∧ IsInts w' w.heap.size v (readL 19 a b c) ∧ Below w.heap.size w w' := by
  obtain ⟨i0, hi, hz0, hz1, hz2⟩ := info_parts info3
  go_enter Try.func15, Try.ntmps15
  have hn : ∀ W : World, W.ownsRow w.heap.size 3 1 (.slice none 0 0) 0 (([] : List Int).map encI) := fun W => World.ownsRow_nil W w.heap.size 3 1
  go_wp2_with (go_at_call 25; refine (rising_own (hn _) (by simp)).mono ?_; rintro e w9 ⟨v9, rfl, h9, b9⟩)
  go_ret
  refine ⟨v9, rfl, ?_, ((Below.refl _ w).alloc (Nat.le_refl _) _).trans b9⟩
  exact h9
set_option maxHeartbeats 1000000 in
theorem reads_20 (a b c imm : Int) (w : World) : Calls Try.prog 15 #[.agg #[.int .i64 20, .int .i64 a, .int .i64 b, .int .i64 c, .int .i64 imm]] w fun e w' => ∃ v, e = .returned v ∧ IsInts w' w.heap.size v (readL 20 a b c) ∧ Below w.heap.size w w' := by
  obtain ⟨i0, hi, hz0, hz1, hz2⟩ := info_parts info3
  go_enter Try.func15, Try.ntmps15
  have hn : ∀ W : World, W.ownsRow w.heap.size 3 1 (.slice none 0 0) 0 (([] : List Int).map encI) := fun W => World.ownsRow_nil W w.heap.size 3 1
  go_wp2_with (go_at_call 25; refine (rising_own (hn _) (by simp)).mono ?_; rintro e w9 ⟨v9, rfl, h9, b9⟩)
  go_ret
  refine ⟨v9, rfl, ?_, ((Below.refl _ w).alloc (Nat.le_refl _) _).trans b9⟩
  exact h9
set_option maxHeartbeats 1000000 in
theorem reads_21 (a b c imm : Int) (w : World) : Calls Try.prog 15 #[.agg #[.int .i64 21, .int .i64 a, .int .i64 b, .int .i64 c, .int .i64 imm]] w fun e w' => ∃ v, e = .returned v ∧ IsInts w' w.heap.size v (readL 21 a b c) ∧ Below w.heap.size w w' := by
  obtain ⟨i0, hi, hz0, hz1, hz2⟩ := info_parts info3
  go_enter Try.func15, Try.ntmps15
  have hn : ∀ W : World, W.ownsRow w.heap.size 3 1 (.slice none 0 0) 0 (([] : List Int).map encI) := fun W => World.ownsRow_nil W w.heap.size 3 1
  go_wp2_with (go_at_call 25; refine (rising_own (hn _) (by simp)).mono ?_; rintro e w9 ⟨v9, rfl, h9, b9⟩)
  go_ret
  refine ⟨v9, rfl, ?_, ((Below.refl _ w).alloc (Nat.le_refl _) _).trans b9⟩
  exact h9
set_option maxHeartbeats 1000000 in
theorem reads_22 (a b c imm : Int) (w : World) : Calls Try.prog 15 #[.agg #[.int .i64 22, .int .i64 a, .int .i64 b, .int .i64 c, .int .i64 imm]] w fun e w' => ∃ v, e = .returned v ∧ IsInts w' w.heap.size v (readL 22 a b c) ∧ Below w.heap.size w w' := by
  obtain ⟨i0, hi, hz0, hz1, hz2⟩ := info_parts info3
  go_enter Try.func15, Try.ntmps15
  have hn : ∀ W : World, W.ownsRow w.heap.size 3 1 (.slice none 0 0) 0 (([] : List Int).map encI) := fun W => World.ownsRow_nil W w.heap.size 3 1
  go_wp2_with (go_at_call 25; refine (rising_own (hn _) (by simp)).mono ?_; rintro e w9 ⟨v9, rfl, h9, b9⟩)
  go_ret
  refine ⟨v9, rfl, ?_, ((Below.refl _ w).alloc (Nat.le_refl _) _).trans b9⟩
  exact h9
set_option maxHeartbeats 1000000 in
theorem reads_23 (a b c imm : Int) (w : World) : Calls Try.prog 15 #[.agg #[.int .i64 23, .int .i64 a, .int .i64 b, .int .i64 c, .int .i64 imm]] w fun e w' => ∃ v, e = .returned v ∧ IsInts w' w.heap.size v (readL 23 a b c) ∧ Below w.heap.size w w' := by
  obtain ⟨i0, hi, hz0, hz1, hz2⟩ := info_parts info3
  go_enter Try.func15, Try.ntmps15
  go_wp2_with (at_builtin; refine wpList_append_own _ rfl _ _ 28 rfl w.heap.size 3 i0 _ 1 8 Try.underlying28 hi hz0 hz1 hz2 rfl (by decide) _ _ _ rfl ((World.ownsRow_nil w w.heap.size 3 1).alloc _ |>.alloc _) ⟨w.heap.size + 1, 0, none⟩ 1 1 [.int .i64 a] rfl rfl ?c1 ?c2 ?c3 ?c4 ?c5 ?_)
  case c1 => intro j u hj; exact new2_cell1 _ _ _ _ j u hj
  case c2 => intro u hu; simp at hu; subst hu; rfl
  case c3 => unfold maxLen; omega
  case c4 => omega
  case c5 => simp; omega
  intro v1 w1 hown1 hgrow1 _
  have hcA : w1.cell? ⟨w.heap.size, 1, none⟩ = some (.int .i64 a) := hgrow1.cell (by simp [go_sem]) (by simp [Value.ownBlock])
  have hcB : w1.cell? ⟨w.heap.size, 2, none⟩ = some (.int .i64 b) := hgrow1.cell (by simp [go_sem]) (by simp [Value.ownBlock])
  have hb1 : Below w.heap.size w w1 := (((Below.refl _ w).alloc (Nat.le_refl _) _).alloc (by simp) _).grown hgrow1 (by simp; omega) (by simp [Value.ownBlock])
  have H1 : Hid (w1.ownsRow w.heap.size 3 1 v1 1 [.int .i64 a]) := hown1
  have HB : Hid (Below w.heap.size w w1) := hb1
  clear hgrow1 hown1 hb1
  go_wp2_with (go_at_call 25; refine (rising_own (show w1.ownsRow w.heap.size 3 1 v1 1 ([a].map encI) from H1.out) (by simp)).mono ?_; rintro e w9 ⟨v9, rfl, h9, b9⟩)
  go_ret
  refine ⟨v9, rfl, ?_, HB.out.trans b9⟩
  exact h9
set_option maxHeartbeats 1000000 in
theorem reads_24 (a b c imm : Int) (w : World) : Calls Try.prog 15 #[.agg #[.int .i64 24, .int .i64 a, .int .i64 b, .int .i64 c, .int .i64 imm]] w fun e w' => ∃ v, e = .returned v ∧ IsInts w' w.heap.size v (readL 24 a b c) ∧ Below w.heap.size w w' := by
  obtain ⟨i0, hi, hz0, hz1, hz2⟩ := info_parts info3
  go_enter Try.func15, Try.ntmps15
  have hn : ∀ W : World, W.ownsRow w.heap.size 3 1 (.slice none 0 0) 0 (([] : List Int).map encI) := fun W => World.ownsRow_nil W w.heap.size 3 1
  go_wp2_with (go_at_call 25; refine (rising_own (hn _) (by simp)).mono ?_; rintro e w9 ⟨v9, rfl, h9, b9⟩)
  go_ret
  refine ⟨v9, rfl, ?_, ((Below.refl _ w).alloc (Nat.le_refl _) _).trans b9⟩
  exact h9
set_option maxHeartbeats 1000000 in
theorem reads_25 (a b c imm : Int) (w : World) : Calls Try.prog 15 #[.agg #[.int .i64 25, .int .i64 a, .int .i64 b, .int .i64 c, .int .i64 imm]] w fun e w' => ∃ v, e = .returned v ∧ IsInts w' w.heap.size v (readL 25 a b c) ∧ Below w.heap.size w w' := by
  obtain ⟨i0, hi, hz0, hz1, hz2⟩ := info_parts info3
  go_enter Try.func15, Try.ntmps15
  have hn : ∀ W : World, W.ownsRow w.heap.size 3 1 (.slice none 0 0) 0 (([] : List Int).map encI) := fun W => World.ownsRow_nil W w.heap.size 3 1
  go_wp2_with (go_at_call 25; refine (rising_own (hn _) (by simp)).mono ?_; rintro e w9 ⟨v9, rfl, h9, b9⟩)
  go_ret
  refine ⟨v9, rfl, ?_, ((Below.refl _ w).alloc (Nat.le_refl _) _).trans b9⟩
  exact h9
theorem reads_any (op a b c imm : Int) (w : World) (h0 : 0 ≤ op) (h1 : op < 26) : Calls Try.prog 15 #[.agg #[.int .i64 op, .int .i64 a, .int .i64 b, .int .i64 c, .int .i64 imm]] w fun e w' => ∃ v, e = .returned v ∧ IsInts w' w.heap.size v (readL op a b c) ∧ Below w.heap.size w w' := by
  rcases (by omega : op = 0 ∨ op = 1 ∨ op = 2 ∨ op = 3 ∨ op = 4 ∨ op = 5 ∨ op = 6 ∨ op = 7 ∨ op = 8 ∨ op = 9 ∨ op = 10 ∨ op = 11 ∨ op = 12 ∨ op = 13 ∨ op = 14 ∨ op = 15 ∨ op = 16 ∨ op = 17 ∨ op = 18 ∨ op = 19 ∨ op = 20 ∨ op = 21 ∨ op = 22 ∨ op = 23 ∨ op = 24 ∨ op = 25) with rfl | rfl | rfl | rfl | rfl | rfl | rfl | rfl | rfl | rfl | rfl | rfl | rfl | rfl | rfl | rfl | rfl | rfl | rfl | rfl | rfl | rfl | rfl | rfl | rfl | rfl
  · exact reads_0 a b c imm w
  · exact reads_1 a b c imm w
  · exact reads_2 a b c imm w
  · exact reads_3 a b c imm w
  · exact reads_4 a b c imm w
  · exact reads_5 a b c imm w
  · exact reads_6 a b c imm w
  · exact reads_7 a b c imm w
  · exact reads_8 a b c imm w
  · exact reads_9 a b c imm w
  · exact reads_10 a b c imm w
  · exact reads_11 a b c imm w
  · exact reads_12 a b c imm w
  · exact reads_13 a b c imm w
  · exact reads_14 a b c imm w
  · exact reads_15 a b c imm w
  · exact reads_16 a b c imm w
  · exact reads_17 a b c imm w
  · exact reads_18 a b c imm w
  · exact reads_19 a b c imm w
  · exact reads_20 a b c imm w
  · exact reads_21 a b c imm w
  · exact reads_22 a b c imm w
  · exact reads_23 a b c imm w
  · exact reads_24 a b c imm w
  · exact reads_25 a b c imm w
end Go.Proofs.Ytccfgnnfibblkaa
