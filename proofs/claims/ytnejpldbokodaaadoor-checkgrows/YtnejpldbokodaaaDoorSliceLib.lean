/- What the library's functions on slices return, at bytes and at integers: one contract a function. -/
import Derived.Test.YtnejpldbokodaaaDoorAppends
import Derived.Test.YtnejpldbokodaaaDoorStateCmp
import Derived.Lib.SliceRun
import Derived.Lib.AppendZeros
import Derived.Laws.BytesArg
import Derived.Lib.Bytes
namespace Go.Proofs.YtnejpldbokodaaaDoor
open Go.ChangeShapes Go.WideShapes Go.ChangeAt Go.RowKit
set_option linter.unusedVariables false
set_option linter.unusedSimpArgs false
theorem slB : (Tryd.prog.info? 5).map (fun i => (i.zero, i.size, i.bytes)) = some (some (.int .u8 0), 1, 1) := by kernel_rfl
theorem slI : (Tryd.prog.info? 3).map (fun i => (i.zero, i.size, i.bytes)) = some (some (.int .i64 0), 1, 8) := by kernel_rfl
theorem own_none {w : World} {base : Nat} {e : TypeId} : w.ownsRow base e 1 (.slice none 0 0) 0 [] := ⟨rfl, .inl ⟨rfl, rfl⟩⟩
theorem own_grown {w : World} {e : TypeId} {cs : Array Value} {cap : Nat} (h1 : cs.size = cap) (h2 : cap ≤ maxLen) (base : Nat) (hb : base ≤ w.heap.size) : (w.alloc (.cells cs e)).ownsRow base e 1 (.slice (some ⟨w.heap.size, 0, none⟩) 0 cap) 0 [] :=
  ⟨rfl, .inr ⟨w.heap.size, cap, cs, rfl, hb, by show (w.heap.push _)[w.heap.size]? = _; simp, Nat.zero_le _, h2, by omega, by simp⟩⟩
theorem size_zeroCells1 (z : Value) (hz : z.cells.size = 1) (n : Nat) : (Builtin.zeroCells z.cells n).size = n := by
  rw [size_zeroCells, hz, Nat.mul_one]
theorem own_blk {w : World} {base : Nat} {e : TypeId} {a : Option Addr} {n cap : Nat} {xs : List Value} {size : Nat} (h : w.ownsRow base e size (.slice a n cap) n xs) : ∀ x, a = some x → base ≤ x.block := by
  intro x e
  rcases h.2 with ⟨q, _⟩ | ⟨g, cap, cur, q, hb, _⟩
  · simp only [Value.slice.injEq] at q; rw [q.1] at e; cases e
  · simp only [Value.slice.injEq] at q; rw [q.1] at e; cases e; exact hb
theorem iter2 {k : Nat} (h : k ≤ 2) : k = 0 ∨ k = 1 ∨ k = 2 := by omega
set_option maxRecDepth 100000 in
set_option maxHeartbeats 1000000 in
theorem clone_b (w : World) (a : Option Addr) (n c : Nat) (f : Nat → Int) (hn : n ≤ 100000) (hh : Head a n c) (hR : RowK .u8 w a n f) :
    Calls Tryd.prog 91 #[.slice a n c] w fun e w' => ∃ a' c', e = .returned (.slice a' n c') ∧ (Head a' n c' ∧ RowK .u8 w' a' n f) ∧ (∀ x, a' = some x → w.heap.size ≤ x.block) ∧ Below w.heap.size w w' := by
  have q : ∀ (w : World) (a : Option Addr) (n c n' c' : Nat), (binOp .eql 22 (.slice a n c) (.slice none n' c')).run Tryd.prog w = .ok (.bool a.isNone) w := fun w a n c n' c' => Lib.run_eql_slice_nil w _ _ a n c n' c' Tryd.underlying22
  have HR : Hid (RowK .u8 w a n f) := hR
  have HH : Hid (Head a n c) := hh
  clear hR hh
  rcases a with _ | a
  · obtain ⟨rfl, rfl⟩ := head_nil HH.out rfl
    go_enter Tryd.func91, Tryd.ntmps91
    go_wp2
    go_ret
    exact ⟨none, 0, rfl, ⟨HH.out, HR.out⟩, (fun x e => by cases e), Below.refl _ _⟩
  · go_enter Tryd.func91, Tryd.ntmps91
    go_wp2_with (at_builtin; refine wpList_append_fresh w rfl (.tmp 5) (.tmp 6) 22 rfl 5 (.int .u8 0) 1 Tryd.underlying22 slB rfl rfl (some a) n c (cellsK .u8 n f) rfl (cellsK_len _ _ _) (head_nil HH.out) (row_cells HR.out) (cellsK_one _ _ _) (by unfold maxLen; omega) (by omega) ?_; intro a1 c1 w1 own1 hb1)
    go_ret
    exact ⟨a1, c1, rfl, own_ints own1 HR.out.1, own_blk own1, hb1⟩
set_option maxRecDepth 100000 in
set_option maxHeartbeats 1000000 in
theorem grow_b (w : World) (n : Nat) (hn : n ≤ 100000) :
    Calls Tryd.prog 100 #[.slice none 0 0, .int .i64 n] w fun e w' => ∃ a c, e = .returned (.slice a 0 c) ∧ w'.ownsRow w.heap.size 5 1 (.slice a 0 c) 0 [] ∧ Below w.heap.size w w' := by
  by_cases h0 : n = 0
  · subst h0
    go_enter Tryd.func100, Tryd.ntmps100
    go_wp2
    go_ret
    exact ⟨none, 0, rfl, own_none, Below.refl _ _⟩
  · have hn0 : 0 < (n : Int) := by omega
    have hn1 : (n : Int) ≤ 100000 := by omega
    obtain ⟨i0, hi, hz0, hz1, hz2⟩ := info_parts slB
    have happ := fun ty => Lib.run_append_nil_zeros (P := Tryd.prog) w 22 3 ty 5 i0 (.int .u8 0) .i64 .i64 Tryd.underlying22 Tryd.underlying3 hi hz0 n (by omega) (by omega) (by omega) (by rw [hz2]; omega)
    have hcapge : n ≤ grownCap w n 0 5 := grownCap_ge w _ 0 _
    have hcaple : grownCap w n 0 5 ≤ maxLen := grownCap_le_maxLen w _ 0 _ (by unfold maxLen; omega)
    generalize grownCap w n 0 5 = cap2 at happ hcapge hcaple
    have hZ : (Builtin.zeroCells (Value.int .u8 0).cells n ++ Builtin.zeroCells (Value.int .u8 0).cells (cap2 - n)).size = cap2 := by rw [Array.size_append, size_zeroCells1 _ rfl, size_zeroCells1 _ rfl]; omega
    generalize Builtin.zeroCells (Value.int .u8 0).cells n ++ Builtin.zeroCells (Value.int .u8 0).cells (cap2 - n) = Z at happ hZ
    have HZ : Hid (Z.size = cap2) := hZ
    have HL : Hid (cap2 ≤ maxLen) := hcaple
    have hl9 : cap2 ≤ 9223372036854775807 := by unfold maxLen at hcaple; omega
    clear hi hz0 hz1 hz2 hZ hcaple
    go_enter Tryd.func100, Tryd.ntmps100
    go_wp2_with (at_builtin; refine Lib.wpList_append_run _ rfl _ _ _ _ rfl _ _ rfl rfl _ _ (happ _) ?_)
    go_ret
    exact ⟨some ⟨w.heap.size, 0, none⟩, cap2, rfl, own_grown (w := w.drew) HZ.out HL.out _ (Nat.le_refl _), (below_drewN (Below.refl _ w) 1).alloc (Nat.le_refl _) _⟩
set_option maxRecDepth 100000 in
set_option maxHeartbeats 1000000 in
theorem concat_b (w : World) (p : Nat) (a b : Option Addr) (n m c d : Nat) (f g : Nat → Int) (hnm : n + m ≤ 100000) (h1 : Head a n c) (h2 : Head b m d) (hf : RowK .u8 w a n f) (hg : RowK .u8 w b m g)
    (p0 : w.cell? ⟨p, 0, none⟩ = some (.slice a n c)) (p1 : w.cell? ⟨p, 1, none⟩ = some (.slice b m d)) :
    Calls Tryd.prog 92 #[.slice (some ⟨p, 0, none⟩) 2 2] w fun e w' => ∃ a' c', e = .returned (.slice a' (n + m) c') ∧ w'.ownsRow w.heap.size 5 1 (.slice a' (n + m) c') (n + m) (cellsK .u8 (n + m) fun j => if j < n then f j else g (j - n)) ∧ Below w.heap.size w w' := by
  have HF : Hid (RowK .u8 w a n f) := hf
  have HG : Hid (RowK .u8 w b m g) := hg
  have H1 : Hid (Head a n c) := h1
  have H2 : Hid (Head b m d) := h2
  have P0 : Hid (w.cell? ⟨p, 0, none⟩ = some (.slice a n c)) := p0
  have P1 : Hid (w.cell? ⟨p, 1, none⟩ = some (.slice b m d)) := p1
  have hn' : (n : Int) ≤ 100000 := by omega
  have hm' : (m : Int) ≤ 100000 := by omega
  have HN : Hid (n + m ≤ 100000) := hnm
  obtain ⟨i0, hi0, hz0, hz1, hz2⟩ := info_parts slB
  have GR : Hid (∀ W, Calls Tryd.prog 100 #[.slice none 0 0, .int .i64 ((n : Int) + m)] W fun e w' => ∃ a c, e = .returned (.slice a 0 c) ∧ w'.ownsRow W.heap.size 5 1 (.slice a 0 c) 0 [] ∧ Below W.heap.size W w') := fun W => by
    have h := grow_b W (n + m) (by omega)
    rwa [Int.natCast_add] at h
  clear hf hg h1 h2 hnm
  go_enter Tryd.func92, Tryd.ntmps92
  go_wp2
  go_loop [3, 11] (fun sz k => (k = .int .i64 0 ∧ sz = .int .i64 0) ∨ (k = .int .i64 1 ∧ sz = .int .i64 n) ∨ (k = .int .i64 2 ∧ sz = .int .i64 ((n : Int) + m))) (fun _ k => (2 - intOf k).toNat)
  case atStart => exact .inl ⟨rfl, rfl⟩
  case round =>
    rcases hrel with ⟨rfl, rfl⟩ | ⟨rfl, rfl⟩ | ⟨rfl, rfl⟩
    · go_wp2
      go_round
      case rel => exact .inr (.inl ⟨rfl, rfl⟩)
      case measure => simp [intOf]
    · go_wp2
      go_round
      case rel => exact .inr (.inr ⟨rfl, rfl⟩)
      case measure => simp [intOf]
    · clear p0 p1
      go_wp2_with (go_at_call 100; refine (GR.out _).mono ?_; rintro e w1 ⟨a0, c0, rfl, own0, hb0⟩)
      go_loopw [6, 27] (fun l k wr => ∃ a' c', Below w.heap.size w wr ∧ ((k = .int .i64 0 ∧ l = .slice a' 0 c' ∧ wr.ownsRow w.heap.size 5 1 (.slice a' 0 c') 0 []) ∨ (k = .int .i64 1 ∧ l = .slice a' n c' ∧ wr.ownsRow w.heap.size 5 1 (.slice a' n c') n (cellsK .u8 n f)) ∨ (k = .int .i64 2 ∧ l = .slice a' (n + m) c' ∧ wr.ownsRow w.heap.size 5 1 (.slice a' (n + m) c') (n + m) (cellsK .u8 (n + m) fun j => if j < n then f j else g (j - n))))) (fun _ k _ => (2 - intOf k).toNat)
      case atStart => exact ⟨a0, c0, hb0, .inl ⟨rfl, rfl, own0⟩⟩
      case round =>
        obtain ⟨a', c', hb, hrel⟩ := hrel
        have HB : Hid (Below w.heap.size w wr) := hb
        have q0 := cell_later' P0.out hb
        have q1 := cell_later' P1.out hb
        clear hb own0 hb0
        rcases hrel with ⟨rfl, rfl, hown⟩ | ⟨rfl, rfl, hown⟩ | ⟨rfl, rfl, hown⟩
        · have HO : Hid (wr.ownsRow w.heap.size 5 1 (.slice a' 0 c') 0 []) := hown
          clear hown
          go_wp2_with (at_builtin; refine wpList_append_all _ rfl (.tmp 31) (.tmp 32) 22 rfl w.heap.size 5 i0 _ 1 1 Tryd.underlying22 hi0 hz0 hz1 hz2 rfl (by decide) (.slice a' 0 c') 0 [] rfl HO.out a n c (cellsK .u8 n f) rfl (by rw [cellsK_len, Nat.mul_one]) (head_nil H1.out) (row_cells (HF.out.later HB.out)) (cellsK_one _ _ _) (by have := HN.out; unfold maxLen; omega) (by have := HN.out; omega) HB.out.size ?_; intro a5 c5 w5 own5 hgrow5)
          go_roundw
          case rel =>
            rw [Nat.zero_add, List.nil_append] at own5
            exact ⟨a5, c5, HB.out.grown hgrow5 HB.out.size (fun q hq => own_lt HO.out q hq), .inr (.inl ⟨rfl, by first | rfl | rw [Nat.zero_add], own5⟩)⟩
          case measure => simp [intOf]
        · have HO : Hid (wr.ownsRow w.heap.size 5 1 (.slice a' n c') n (cellsK .u8 n f)) := hown
          clear hown
          go_wp2_with (at_builtin; refine wpList_append_all _ rfl (.tmp 31) (.tmp 32) 22 rfl w.heap.size 5 i0 _ 1 1 Tryd.underlying22 hi0 hz0 hz1 hz2 rfl (by decide) (.slice a' n c') n (cellsK .u8 n f) rfl HO.out b m d (cellsK .u8 m g) rfl (by rw [cellsK_len, Nat.mul_one]) (head_nil H2.out) (row_cells (HG.out.later HB.out)) (cellsK_one _ _ _) (by have := HN.out; unfold maxLen; omega) (by have := HN.out; omega) HB.out.size ?_; intro a5 c5 w5 own5 hgrow5)
          go_roundw
          case rel =>
            rw [cellsK_add] at own5
            exact ⟨a5, c5, HB.out.grown hgrow5 HB.out.size (fun q hq => own_lt HO.out q hq), .inr (.inr ⟨rfl, rfl, own5⟩)⟩
          case measure => simp [intOf]
        · go_wp2
          go_ret
          exact ⟨a', c', rfl, hown, HB.out⟩
end Go.Proofs.YtnejpldbokodaaaDoor
