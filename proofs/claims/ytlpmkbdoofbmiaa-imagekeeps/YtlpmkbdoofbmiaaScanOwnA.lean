/- What the code's own functions of the scanner return (over the guess). -/
import Derived.Test.YtlpmkbdoofbmiaaScanKit
import Derived.Test.YtlpmkbdoofbmiaaSliceLib
import Derived.Lib.AppendStr
import Derived.BigQuiet
namespace Go.Proofs.Ytlpmkbdoofbmiaa
open Go.ChangeShapes Go.WideShapes Go.ChangeAt Go.RowKit
set_option linter.unusedVariables false
set_option linter.unusedSimpArgs false
theorem own_mono {w : World} {base base' : Nat} {e : TypeId} {size : Nat} {v : Value} {n : Nat} {xs : List Value} (h : w.ownsRow base e size v n xs) (hb : base' ≤ base) : w.ownsRow base' e size v n xs :=
  ⟨h.1, h.2.imp id fun ⟨g, cap, cur, h1, h2, h3⟩ => ⟨g, cap, cur, h1, Nat.le_trans hb h2, h3⟩⟩
set_option maxRecDepth 100000 in
set_option maxHeartbeats 1000000 in
/-- A copy, the call's own. -/
theorem clone_own (w : World) (a : Option Addr) (n c : Nat) (f : Nat → Int) (hn : n ≤ 3000000) (hh : Head a n c) (hR : Bytes w a n f) :
    Calls Try.prog 37 #[.slice a n c] w fun e w' => ∃ a' c', e = .returned (.slice a' n c') ∧ w'.ownsRow w.heap.size 5 1 (.slice a' n c') n (cellsK .u8 n f) ∧ Below w.heap.size w w' := by
  have q : ∀ (w : World) (a : Option Addr) (n c n' c' : Nat), (binOp .eql 23 (.slice a n c) (.slice none n' c')).run Try.prog w = .ok (.bool a.isNone) w := fun w a n c n' c' => Lib.run_eql_slice_nil w _ _ a n c n' c' Try.underlying23
  have HR : Hid (Bytes w a n f) := hR
  have HH : Hid (Head a n c) := hh
  clear hR hh
  rcases a with _ | a
  · obtain ⟨rfl, rfl⟩ := head_nil HH.out rfl
    go_enter Try.func37, Try.ntmps37
    go_wp2
    go_ret
    exact ⟨none, 0, rfl, own_none, Below.refl _ _⟩
  · go_enter Try.func37, Try.ntmps37
    go_wp2_with (at_builtin; refine wpList_append_fresh w rfl (.tmp 5) (.tmp 6) 23 rfl 5 (.int .u8 0) 1 Try.underlying23 slB rfl rfl (some a) n c (cellsK .u8 n f) rfl (cellsK_len _ _ _) (head_nil HH.out) (bytes_cells HR.out) (cellsK_one _ _ _) (by unfold maxLen; omega) (by omega) ?_; intro a1 c1 w1 own1 hb1)
    go_ret
    exact ⟨a1, c1, rfl, own1, hb1⟩
theorem left_so {O : Nat → Prop} {w : World} {v : Value} {n : Nat} {f : Nat → Int} (h : ScO O w v n f) :
    Calls Try.prog 30 #[v] w fun e w' => e = .returned (.int .i64 n) ∧ Below w.heap.size w w' := by
  obtain ⟨g, a, c, rfl, ⟨h1, h2⟩, h4, h7, i, F, ⟨h3, h3'⟩, ⟨h5, h6⟩, rfl, h8⟩ := h
  have hi : (i : Int) ≤ 2000000 := by omega
  have hn : (n : Int) ≤ 2000000 := by omega
  clear h1 h2 h5 h6 h7
  go_enter Try.func30, Try.ntmps30
  go_wp2
  go_quiet (fail)
  go_wp2
  go_ret
  refine ⟨?_, by first | exact Below.refl _ _ | exact below_drewN (Below.refl _ _) _⟩
  first | rfl | (congr 2; omega) | go_num
/-- What is taken lies in the scanner's own blocks; the scanner goes on behind it. -/
def TakeO (O : Nat → Prop) (w : World) (v : Value) (n : Nat) (f : Nat → Int) (x : Int) (e : Ending) (w' : World) : Prop :=
  (((n : Int) < x ∧ e = .panicked [{ v := .iface 28 (.int .i64 2), recovered := false }]) ∨ (x ≤ n ∧ ∃ a c, e = .returned (.slice a x.toNat c) ∧ Head a x.toNat c ∧ Bytes w' a x.toNat f ∧ ScO O w' v (n - x.toNat) (fun i => f (i + x.toNat)))) ∧ Apart O w w'
set_option maxRecDepth 100000 in
set_option maxHeartbeats 2000000 in
theorem take_so {O : Nat → Prop} {w : World} {v : Value} {n : Nat} {f : Nat → Int} (h : ScO O w v n f) (x : Int) (x0 : 0 ≤ x) :
    Calls Try.prog 38 #[v, .int .i64 x] w (TakeO O w v n f x) := by
  obtain ⟨g, a, c, rfl, ⟨h1, h2⟩, h4, h7, i, F, ⟨h3, h3'⟩, ⟨h5, h6⟩, rfl, h8⟩ := h
  have LF : Hid (Calls Try.prog 30 #[.pointer (some ⟨g, 0, none⟩)] w fun e w' => e = .returned (.int .i64 n) ∧ Below w.heap.size w w') := left_so ⟨g, a, c, rfl, ⟨h1, h2⟩, h4, h7, i, F, ⟨h3, h3'⟩, ⟨h5, h6⟩, rfl, h8⟩
  have hn : (n : Int) ≤ 2000000 := by omega
  have hi : (i : Int) ≤ 2000000 := by omega
  have HO : Hid (O g ∧ ∀ k, O k → k < w.heap.size) := ⟨h1, h2⟩
  have HH : Hid (Head a (n + i) c ∧ Bytes w a (n + i) F) := ⟨h5, h6⟩
  have HA : Hid (∀ x, a = some x → O x.block ∧ x.block ≠ g) := h7
  have HC : Hid (w.cell? ⟨g, 0, none⟩ = some (.slice a (n + i) c) ∧ w.cell? ⟨g, 1, none⟩ = some (.int .i64 (i : Nat)) ∧ w.frozen? ⟨g, 1, none⟩ = false) := ⟨h3, h3', h4⟩
  have HB : Hid (n + i ≤ 2000000) := h8
  obtain ⟨k, rfl⟩ := Int.eq_ofNat_of_zero_le x0
  clear h1 h2 h5 h6 h7 h3 h3' h4
  by_cases hk : k ≤ n
  · have S1 : ∀ W, (Instr.slice 23 (.slice a (n + i) c) (some (.int .i64 (i : Int))) (some (.int .i64 ((i : Int) + k))) none).run Try.prog W = .ok (.slice (fromA a c i) k (c - i)) W := fun W => slice_mid W a (n + i) c i k (by have := HH.out.1.1; omega)
    have hk' : (k : Int) ≤ n := by omega
    have hk0 : (0 : Int) ≤ k := by omega
    go_enter Try.func38, Try.ntmps38
    go_wp2_with (go_at_call 30; go_loud (refine LF.out.mono ?_; rintro e w1 ⟨rfl, hb1⟩; have h3 := cell_later' HC.out.1 hb1; have h3' := cell_later' HC.out.2.1 hb1; have h4 : w1.frozen? ⟨g, 1, none⟩ = false := (hb1.frozen (p := ⟨g, 1, none⟩) (HO.out.2 g HO.out.1)).trans HC.out.2.2))
    go_quiet (fail)
    go_wp2
    go_ret
    unfold TakeO
    rw [Int.toNat_natCast]
    have far : ∀ z, a = some z → z.block ≠ g := fun z e => (HA.out z e).2
    have F0 : Bytes w1 a (n + i) F := HH.out.2.later hb1
    have F1 : Bytes (w1.setCell ⟨g, 1, none⟩ (.int .i64 ((i : Int) + k))) a (n + i) F := F0.set (fun b off e => far _ e) 1 _
    have C0 : (w1.setCell ⟨g, 1, none⟩ (.int .i64 ((i : Int) + k))).cell? ⟨g, 0, none⟩ = some (.slice a (n + i) c) := (World.cell?_setCell_other _ _ _ _ (by simp)).trans h3
    have C1 : (w1.setCell ⟨g, 1, none⟩ (.int .i64 ((i : Int) + k))).cell? ⟨g, 1, none⟩ = some (.int .i64 ((i + k : Nat))) := by rw [World.cell?_setCell_same _ _ _ h3', Int.natCast_add]
    have D1 : Apart O w (w1.setCell ⟨g, 1, none⟩ (.int .i64 ((i : Int) + k))) := ⟨hb1.os, hb1.tape, hb1.output, by have := hb1.size; simp; omega, fun j hj hn => (Below.heap_setCell _ _ _ _ (by simp only [ne_eq]; intro e; exact hn (e ▸ HO.out.1))).trans (hb1.block j hj)⟩
    have Z1 : (w1.setCell ⟨g, 1, none⟩ (.int .i64 ((i : Int) + k))).frozen? ⟨g, 1, none⟩ = false := by simpa using h4
    have hb2 : Below (w1.setCell ⟨g, 1, none⟩ (.int .i64 ((i : Int) + k))).heap.size (w1.setCell ⟨g, 1, none⟩ (.int .i64 ((i : Int) + k))) ((w1.setCell ⟨g, 1, none⟩ (.int .i64 ((i : Int) + k))).drewN nq) := below_drewN (Below.refl _ _) nq
    have hgl : g < (w1.setCell ⟨g, 1, none⟩ (.int .i64 ((i : Int) + k))).heap.size := World.block_lt_of_cell? _ ⟨g, 0, none⟩ C0
    generalize (w1.setCell ⟨g, 1, none⟩ (.int .i64 ((i : Int) + k))).drewN nq = w3 at hb2 ⊢
    generalize w1.setCell ⟨g, 1, none⟩ (.int .i64 ((i : Int) + k)) = w2 at F1 C0 C1 D1 Z1 hb2 hgl ⊢
    have F2 := F1.later hb2
    have e1 : n + i = (n - k) + (i + k) := by omega
    have C0' := cell_later' C0 hb2
    have HHo := HH.out.1
    rw [e1] at C0' HHo
    refine ⟨.inr ⟨by omega, fromA a c i, c - i, rfl, ⟨by have := HH.out.1.1; omega, fun e => by have := HH.out.1.2 (fromA_nil e); omega⟩, fromA_part F2 HH.out.1 (by omega), ⟨g, a, c, rfl, ⟨HO.out.1, fun k h => Nat.lt_of_lt_of_le (HO.out.2 k h) (Nat.le_trans D1.size hb2.size)⟩, (hb2.frozen (p := ⟨g, 1, none⟩) hgl).trans Z1, HA.out, i + k, F, ⟨C0', cell_later' C1 hb2⟩, ⟨HHo, e1 ▸ F2⟩, ?_, by have := HB.out; omega⟩⟩, D1.trans (Apart.of_below (O := fun _ => False) hb2) (fun _ h => h.elim)⟩
    funext j; exact congrArg F (by omega)
  · have hk' : (n : Int) < k := by omega
    go_enter Try.func38, Try.ntmps38
    go_wp2_with (go_at_call 30; refine LF.out.mono ?_; rintro e w1 ⟨rfl, hb1⟩)
    exact ⟨rfl, .inl ⟨hk', rfl⟩, Apart.of_below hb1⟩
end Go.Proofs.Ytlpmkbdoofbmiaa
