/- The statement on data, walked. -/
import Derived.Test.YtnejpldbokodaaaDoorChkAwakeAll
import Derived.Test.YtnejpldbokodaaaDoorChkRefD
namespace Go.Proofs.YtnejpldbokodaaaDoor
open Go.ChangeShapes Go.WideShapes Go.ChangeAt Go.RowKit
set_option linter.unusedVariables false
set_option linter.unusedSimpArgs false
set_option maxRecDepth 100000 in
set_option maxHeartbeats 4000000 in
theorem datas_walk (w : World) (v : Value) (d : DataM) (h : DataV (fun _ => True) w v d) (hT : Tab w) : Calls Tryd.prog 3 #[v] w fun e w' => e = .returned (.bool true) ∧ Below w.heap.size w w' := by
  have HV : Hid (DataV (fun _ => True) w v d) := h
  obtain ⟨vb, vr, rfl, hb, hr, hs⟩ := h
  obtain ⟨ba, bc, rfl, hbm, -, -⟩ := LstA.open hb.1
  obtain ⟨ra, rc, rfl, hrm, -, -⟩ := LstA.open hr
  obtain ⟨xn, xb, xa, xf, xz, lb, lr⟩ := d
  dsimp only at *
  have HT : Hid (Tab w) := hT
  obtain ⟨n, en⟩ : ∃ n, lb.length = n := ⟨_, rfl⟩
  obtain ⟨m, em⟩ : ∃ m, lr.length = m := ⟨_, rfl⟩
  have EN : Hid (lb.length = n ∧ lr.length = m) := ⟨en, em⟩
  rw [en, em] at HV ⊢
  rw [en] at hbm
  rw [em] at hrm
  unfold maxLen at hbm hrm
  have hn9 : (n : Int) ≤ 9223372036854775807 := by omega
  have hm9 : (m : Int) ≤ 9223372036854775807 := by omega
  have UP : Hid (Below w.heap.size w (w.alloc (.cells #[.string xn, .int .i64 xb, .int .i64 xa, .bool xf, .int .i64 xz, .slice ba n bc, .slice ra m rc] 25))) := keep_alloc8 (Below.refl _ _) _
  have X1 : Hid (XAt (w.alloc (.cells #[.string xn, .int .i64 xb, .int .i64 xa, .bool xf, .int .i64 xz, .slice ba n bc, .slice ra m rc] 25)) w.heap.size [.string xn, .int .i64 xb, .int .i64 xa, .bool xf, .int .i64 xz, .slice ba n bc, .slice ra m rc]) := XAt.new _ _ _
  have AW : Hid (∀ X, Below w.heap.size w X → Calls Tryd.prog 5 #[] X fun e w' => e = .returned (.bool true) ∧ Below X.heap.size X w') := fun X hX => awake10 X (HT.out.later hX)
  clear hb hr hs hT en em hbm hrm
  go_enter Tryd.func3, Tryd.ntmps3
  go_upto_region 1 with fail
  generalize w.alloc (.cells #[.string xn, .int .i64 xb, .int .i64 xa, .bool xf, .int .i64 xz, .slice ba n bc, .slice ra m rc] 25) = w0 at UP X1 ⊢
  have hX : Hid (w.heap.size < w0.heap.size) := X1.out.lt (by simp)
  by_cases hbig : 5000 < (n : Int) ∨ 100 < (m : Int)
  · rcases (by omega : 5000 < (n : Int) ∨ ((n : Int) ≤ 5000 ∧ 100 < (m : Int))) with q1 | ⟨q1, q2⟩
    all_goals
      clear hbig
      go_wp2_with (first
        | (have q := K1; go_at_call 5; refine (AW.out _ (bnext UP.out K1.out)).mono ?_; rintro e w2 ⟨rfl, b2⟩; have K2 := Hid.mk0 (bnext K1.out b2))
        | (go_at_call 5; refine (AW.out _ UP.out).mono ?_; rintro e w1 ⟨rfl, b1⟩; have K1 := Hid.mk0 b1; have y5 := (X1.out.later hX.out b1).1 5 _ rfl; have y6 := (X1.out.later hX.out b1).1 6 _ rfl; clear b1))
      go_ret
      exact ⟨rfl, bnext UP.out K2.out⟩
  have q1 : (n : Int) ≤ 5000 := by omega
  have q2 : (m : Int) ≤ 100 := by omega
  clear hbig
  obtain ⟨c, I⟩ := bool_of (rdataOk ⟨xn, xb, xa, xf, xz, lb, lr⟩)
  have CD : Hid (∀ X, Below w.heap.size w X → Calls Tryd.prog 6 #[.agg #[.string xn, .int .i64 xb, .int .i64 xa, .bool xf, .int .i64 xz, .slice ba n bc, .slice ra m rc]] X fun e w' => e = .returned (.int .i64 (if c = true then 0 else 4)) ∧ Below X.heap.size X w') := fun X hX => by
    refine (data_any (HV.out.keep (Stay.of_below hX))).mono fun e w' h => ⟨h.1.trans ?_, h.2⟩
    by_cases e : rdataOk ⟨xn, xb, xa, xf, xz, lb, lr⟩
    · rw [if_pos e, if_pos (I.out.2 e)]
    · rw [if_neg e, if_neg fun h => e (I.out.1 h)]
  have CR : Hid (∀ X, Below w.heap.size w X → Calls Tryd.prog 7 #[.agg #[.string xn, .int .i64 xb, .int .i64 xa, .bool xf, .int .i64 xz, .slice ba n bc, .slice ra m rc]] X fun e w' => e = .returned (.bool c) ∧ Below X.heap.size X w') := fun X hX => (rdata_any (HV.out.keep (Stay.of_below hX)) (by have := EN.out.1; dsimp only; omega) (by have := EN.out.2; dsimp only; omega)).mono fun e w' h => ⟨says_is h.1 I.out, h.2⟩
  clear HV
  cases c
  all_goals
    go_wp2_with (first
      | (go_at_call 7; refine (CR.out _ (bnext UP.out K2.out)).mono ?_; rintro e w3 ⟨rfl, b3⟩; have K3 := Hid.mk0 (bnext K2.out b3))
      | (go_at_call 6; refine (CD.out _ (bnext UP.out K1.out)).mono ?_; rintro e w2 ⟨rfl, b2⟩; have K2 := Hid.mk0 (bnext K1.out b2); clear y0 y1 y2 y3 y4 y5 y6; have y0 := (X1.out.later hX.out K2.out).1 0 _ rfl; have y1 := (X1.out.later hX.out K2.out).1 1 _ rfl; have y2 := (X1.out.later hX.out K2.out).1 2 _ rfl; have y3 := (X1.out.later hX.out K2.out).1 3 _ rfl; have y4 := (X1.out.later hX.out K2.out).1 4 _ rfl; have y5 := (X1.out.later hX.out K2.out).1 5 _ rfl; have y6 := (X1.out.later hX.out K2.out).1 6 _ rfl)
      | (go_at_call 5; refine (AW.out _ UP.out).mono ?_; rintro e w1 ⟨rfl, b1⟩; have K1 := Hid.mk0 b1; have y0 := (X1.out.later hX.out b1).1 0 _ rfl; have y1 := (X1.out.later hX.out b1).1 1 _ rfl; have y2 := (X1.out.later hX.out b1).1 2 _ rfl; have y3 := (X1.out.later hX.out b1).1 3 _ rfl; have y4 := (X1.out.later hX.out b1).1 4 _ rfl; have y5 := (X1.out.later hX.out b1).1 5 _ rfl; have y6 := (X1.out.later hX.out b1).1 6 _ rfl; clear b1))
    go_ret
    exact ⟨rfl, bnext UP.out K3.out⟩
end Go.Proofs.YtnejpldbokodaaaDoor
