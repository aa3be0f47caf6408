/- What the document's own List of layer 3 returns. -/
import Derived.Test.YtccfgnnfibblkaaFlowRef2
namespace Go.Proofs.Ytccfgnnfibblkaa
open Go.ChangeShapes Go.WideShapes Go.ChangeAt Go.RowKit Go.Sort
set_option linter.unusedVariables false

set_option maxHeartbeats 1000000 in
theorem list_any (op a b c imm : Int) (w : World) (h0 : 0 ≤ op) (h1 : op < 26) : Calls Try.prog 16 #[.agg #[.int .i64 op, .int .i64 a, .int .i64 b, .int .i64 c, .int .i64 imm]] w fun e w' => ∃ v, e = .returned v ∧ IsInts w' (w.heap.size + 1) v (refL op a b c 15) ∧ Below w.heap.size w w' := by
  obtain ⟨i0, hi, hz0, hz1, hz2⟩ := info_parts info3
  have HR : Hid (∀ (r : Int) (W : World), 1 ≤ r → Calls Try.prog 26 #[.agg #[.int .i64 op, .int .i64 a, .int .i64 b, .int .i64 c, .int .i64 imm], .int .i64 r] W fun e w' => e = .returned (.bool (refB op a b c r)) ∧ Below W.heap.size W w') := fun r W hr => rreads_any op a b c imm r W h0 h1 hr
  clear h0 h1
  go_enter Try.func16, Try.ntmps16
  go_wp2
  go_loopw [3, 4] (fun v i wr => ∃ k : Nat, k ≤ 15 ∧ i = .int .i64 ((k : Int) + 1) ∧ wr.ownsRow (w.heap.size + 1) 3 1 v (refL op a b c k).length ((refL op a b c k).map encI) ∧ Below (w.heap.size + 1) (w.alloc (.cells #[.int .i64 op, .int .i64 a, .int .i64 b, .int .i64 c, .int .i64 imm] 23)) wr) (fun _ i _ => 16 - (intOf i).toNat)
  case atStart => exact ⟨0, by omega, rfl, World.ownsRow_nil _ _ _ _, Below.refl _ _⟩
  case round =>
    obtain ⟨k, hk, rfl, hown, hbel⟩ := hrel
    have HW : Hid (wr.ownsRow (w.heap.size + 1) 3 1 u3 (refL op a b c k).length ((refL op a b c k).map encI)) := hown
    have HB : Hid (Below (w.heap.size + 1) (w.alloc (.cells #[.int .i64 op, .int .i64 a, .int .i64 b, .int .i64 c, .int .i64 imm] 23)) wr) := hbel
    clear hown hbel
    by_cases hlt : k < 15
    · have f0 : wr.cell? ⟨w.heap.size, 0, none⟩ = some (.int .i64 op) := (HB.out.cell (p := ⟨w.heap.size, 0, none⟩) (by simp)).trans (by simp [go_sem])
      have f1 : wr.cell? ⟨w.heap.size, 1, none⟩ = some (.int .i64 a) := (HB.out.cell (p := ⟨w.heap.size, 1, none⟩) (by simp)).trans (by simp [go_sem])
      have f2 : wr.cell? ⟨w.heap.size, 2, none⟩ = some (.int .i64 b) := (HB.out.cell (p := ⟨w.heap.size, 2, none⟩) (by simp)).trans (by simp [go_sem])
      have f3 : wr.cell? ⟨w.heap.size, 3, none⟩ = some (.int .i64 c) := (HB.out.cell (p := ⟨w.heap.size, 3, none⟩) (by simp)).trans (by simp [go_sem])
      have f4 : wr.cell? ⟨w.heap.size, 4, none⟩ = some (.int .i64 imm) := (HB.out.cell (p := ⟨w.heap.size, 4, none⟩) (by simp)).trans (by simp [go_sem])
      have hsz : w.heap.size + 1 ≤ wr.heap.size := by have := HB.out.size; simpa using this
      have HL : Hid (refL op a b c (k + 1) = refL op a b c k ++ if refB op a b c ((k : Int) + 1) = true then [(k : Int) + 1] else []) := rfl
      have hc : Hid (∀ W, Calls Try.prog 26 #[.agg #[.int .i64 op, .int .i64 a, .int .i64 b, .int .i64 c, .int .i64 imm], .int .i64 ((k : Int) + 1)] W fun e w' => e = .returned (.bool (refB op a b c ((k : Int) + 1))) ∧ Below W.heap.size W w') := fun W => HR.out _ W (by omega)
      cases hq : refB op a b c ((k : Int) + 1)
      · rw [hq] at hc HL
        go_wp2_with (go_at_call 26; refine (hc.out _).mono ?_; rintro e w1 ⟨rfl, hb1⟩)
        go_roundw
        case rel => exact ⟨k + 1, by omega, by go_num, by rw [HL.out, if_neg (by decide), List.append_nil]; exact owns_below1 HW.out hb1, HB.out.trans (hb1.mono hsz)⟩
        case measure => simp [intOf]; omega
      · rw [hq] at hc HL
        have hlen : (refL op a b c k).length ≤ k := refL_le op a b c k
        have HN : Hid (refL op a b c (k + 1) = refL op a b c k ++ [(k : Int) + 1]) := (HL.out).trans (by rw [if_pos rfl])
        clear HL
        go_wp2_with fail
        refine (hc.out _).mono ?_
        rintro e w1 ⟨rfl, hb1⟩
        have HW1 : Hid (w1.ownsRow (w.heap.size + 1) 3 1 u3 (refL op a b c k).length ((refL op a b c k).map encI)) := owns_below1 HW.out hb1
        have HB1 : Hid (Below (w.heap.size + 1) (w.alloc (.cells #[.int .i64 op, .int .i64 a, .int .i64 b, .int .i64 c, .int .i64 imm] 23)) w1) := HB.out.trans (hb1.mono hsz)
        have hsz1 : w.heap.size + 1 ≤ w1.heap.size := by have := HB1.out.size; simpa using this
        clear hb1 f0 f1 f2 f3 f4
        go_wp2_with (at_builtin; refine wpList_append_own _ rfl _ _ 28 rfl (w.heap.size + 1) 3 i0 _ 1 8 Try.underlying28 hi hz0 hz1 hz2 rfl (by decide) _ _ _ rfl (HW1.out.alloc _) ⟨w1.heap.size, 0, none⟩ 1 1 [.int .i64 ((k : Int) + 1)] rfl rfl ?c1 ?c2 ?c3 ?c4 ?c5 ?_)
        case c1 => intro j u hj; rw [show (⟨w1.heap.size, 0, none⟩ : Addr).add j = ⟨w1.heap.size, j, none⟩ from by cases j <;> simp [Addr.add]]; exact new_cell1 w1 #[.int .i64 ((k : Int) + 1)] 3 j u (by simpa using hj)
        case c2 => intro u hu; simp at hu; subst hu; rfl
        case c3 => unfold maxLen; omega
        case c4 => omega
        case c5 => simp; omega
        intro v2 w2 hown2 hgrow2 _
        have HB2 : Hid (Below (w.heap.size + 1) (w.alloc (.cells #[.int .i64 op, .int .i64 a, .int .i64 b, .int .i64 c, .int .i64 imm] 23)) w2) := (HB1.out.alloc hsz1 _).grown hgrow2 (by simp; omega) (fun q hq => (HW1.out.lt q hq).1)
        have H2 : Hid (w2.ownsRow (w.heap.size + 1) 3 1 v2 (refL op a b c (k + 1)).length ((refL op a b c (k + 1)).map encI)) := by
          have e1 : (refL op a b c (k + 1)).length = (refL op a b c k).length + 1 := by rw [HN.out]; simp
          have e2 : (refL op a b c (k + 1)).map encI = (refL op a b c k).map encI ++ [.int .i64 ((k : Int) + 1)] := by rw [HN.out]; simp
          rw [e1, e2]; exact hown2
        clear hown2 hgrow2
        go_wp2
        go_roundw
        case rel => exact ⟨k + 1, by omega, by go_num, H2.out, HB2.out⟩
        case measure => simp [intOf]; omega
    · obtain rfl : k = 15 := by omega
      go_wp2
      go_ret
      refine ⟨_, rfl, ?_, (((Below.refl _ w).alloc (Nat.le_refl _) _).trans (HB.out.mono (by omega)))⟩
      obtain ⟨hl, h⟩ := holds_of_owns HW.out
      rcases h with ⟨h, a', cap, rfl⟩ | ⟨g, cap, rfl, q1, q2, q3, q4⟩
      · exact ⟨a', cap, by rw [h]; rfl, .inl h⟩
      · exact ⟨_, cap, rfl, .inr ⟨g, rfl, q1, q2, q4⟩⟩
end Go.Proofs.Ytccfgnnfibblkaa
