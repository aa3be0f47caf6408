/- The statement on functions, walked. -/
import Derived.Test.YtnejpldbokodaaaGreatDoorChkAwakeAll
import Derived.Test.YtnejpldbokodaaaGreatDoorChkRefF
namespace Go.Proofs.YtnejpldbokodaaaGreatDoor
open Go.ChangeShapes Go.WideShapes Go.ChangeAt Go.RowKit
set_option linter.unusedVariables false
set_option linter.unusedSimpArgs false
set_option maxRecDepth 100000 in
set_option maxHeartbeats 4000000 in
theorem funs_walk (w : World) (v : Value) (f : FuncM) (h : FuncV (fun _ => True) w v f) (hT : Tab w) : Calls Tryz.prog 3 #[v] w fun e w' => e = .returned (.bool true) ∧ Below w.heap.size w w' := by
  have HV : Hid (FuncV (fun _ => True) w v f) := h
  obtain ⟨vc, vr, rfl, hc, hr, -⟩ := h
  obtain ⟨ca, cc, rfl, hcm, -, -⟩ := LstA.open hc.1
  obtain ⟨ra, rc, rfl, hrm, -, -⟩ := LstA.open hr
  obtain ⟨xn, xb, lc, lr⟩ := f
  dsimp only at *
  have HT : Hid (Tab w) := hT
  obtain ⟨E, eE⟩ : ∃ E, fnE ⟨xn, xb, lc, lr⟩ = E := ⟨_, rfl⟩
  obtain ⟨n, en⟩ : ∃ n, lc.length = n := ⟨_, rfl⟩
  obtain ⟨m, em⟩ : ∃ m, lr.length = m := ⟨_, rfl⟩
  have EN : Hid (lc.length = n ∧ lr.length = m ∧ fnE ⟨xn, xb, lc, lr⟩ = E) := ⟨en, em, eE⟩
  rw [en, em] at HV ⊢
  rw [en] at hcm
  rw [em] at hrm
  unfold maxLen at hcm hrm
  have hn9 : (n : Int) ≤ 9223372036854775807 := by omega
  have hm9 : (m : Int) ≤ 9223372036854775807 := by omega
  have UP : Hid (Below w.heap.size w (w.alloc (.cells #[.string xn, .int .i64 xb, .slice ca n cc, .slice ra m rc] 25))) := keep_alloc8 (Below.refl _ _) _
  have X1 : Hid (XAt (w.alloc (.cells #[.string xn, .int .i64 xb, .slice ca n cc, .slice ra m rc] 25)) w.heap.size [.string xn, .int .i64 xb, .slice ca n cc, .slice ra m rc]) := XAt.new _ _ _
  have AW : Hid (∀ X, Below w.heap.size w X → Calls Tryz.prog 7 #[] X fun e w' => e = .returned (.bool true) ∧ Below X.heap.size X w') := fun X hX => awake10 X (HT.out.later hX)
  clear hc hr hT en em eE hcm hrm
  go_enter Tryz.func3, Tryz.ntmps3
  go_upto_region 1 with fail
  generalize w.alloc (.cells #[.string xn, .int .i64 xb, .slice ca n cc, .slice ra m rc] 25) = w0 at UP X1 ⊢
  have hX : Hid (w.heap.size < w0.heap.size) := X1.out.lt (by simp)
  by_cases hbig : 300 < (n : Int) ∨ 100 < (m : Int)
  · rcases (by omega : 300 < (n : Int) ∨ ((n : Int) ≤ 300 ∧ 100 < (m : Int))) with q1 | ⟨q1, q2⟩
    all_goals
      clear hbig
      go_wp2_with (first
        | (have q := K1; go_at_call 7; refine (AW.out _ (bnext UP.out K1.out)).mono ?_; rintro e w2 ⟨rfl, b2⟩; have K2 := Hid.mk0 (bnext K1.out b2))
        | (go_at_call 7; refine (AW.out _ UP.out).mono ?_; rintro e w1 ⟨rfl, b1⟩; have K1 := Hid.mk0 b1; have y2 := (X1.out.later hX.out b1).1 2 _ rfl; have y3 := (X1.out.later hX.out b1).1 3 _ rfl; clear b1))
      go_ret
      exact ⟨rfl, bnext UP.out K2.out⟩
  have q1 : (n : Int) ≤ 300 := by omega
  have q2 : (m : Int) ≤ 100 := by omega
  clear hbig
  have CD : Hid (∀ X, Below w.heap.size w X → Calls Tryz.prog 8 #[.agg #[.string xn, .int .i64 xb, .slice ca n cc, .slice ra m rc]] X fun e w' => e = .returned (.int .i64 E) ∧ Below X.heap.size X w') := fun X hX => by
    have h := fun_any (HV.out.keep (Stay.of_below hX)) (by have := EN.out.1; dsimp only; omega) (by have := EN.out.2.1; dsimp only; omega) (HT.out.later hX)
    rwa [EN.out.2.2] at h
  have CR : Hid (∀ X, Below w.heap.size w X → Calls Tryz.prog 9 #[.agg #[.string xn, .int .i64 xb, .slice ca n cc, .slice ra m rc]] X fun e w' => e = .returned (.int .i64 E) ∧ Below X.heap.size X w') := fun X hX => by
    have h := rfun_any (HV.out.keep (Stay.of_below hX)) (by have := EN.out.1; dsimp only; omega) (by have := EN.out.2.1; dsimp only; omega)
    rwa [EN.out.2.2] at h
  clear HV EN
  go_upto_region 3 with (go_at_call 7; refine (AW.out _ UP.out).mono ?_; rintro e w1 ⟨rfl, b1⟩; have K1 := Hid.mk0 b1; have y2 := (X1.out.later hX.out b1).1 2 _ rfl; have y3 := (X1.out.later hX.out b1).1 3 _ rfl; clear b1)
  have BC1 : Hid (∀ W, Below w1.heap.size w1 W → Below w1.heap.size w1 W ∧ W.cell? ⟨w.heap.size, 0, none⟩ = some (.string xn) ∧ W.cell? ⟨w.heap.size, 1, none⟩ = some (.int .i64 xb) ∧ W.cell? ⟨w.heap.size, 2, none⟩ = some (.slice ca n cc) ∧ W.cell? ⟨w.heap.size, 3, none⟩ = some (.slice ra m rc)) := fun W hW => by
    have x := X1.out.later hX.out (bnext K1.out hW)
    exact ⟨hW, x.1 0 _ rfl, x.1 1 _ rfl, x.1 2 _ rfl, x.1 3 _ rfl⟩
  clear y2 y3
  go_region_held3 (fun W => Below w1.heap.size w1 W ∧ W.cell? ⟨w.heap.size, 0, none⟩ = some (.string xn) ∧ W.cell? ⟨w.heap.size, 1, none⟩ = some (.int .i64 xb) ∧ W.cell? ⟨w.heap.size, 2, none⟩ = some (.slice ca n cc) ∧ W.cell? ⟨w.heap.size, 3, none⟩ = some (.slice ra m rc))
    (first
    | exact BC1.out _ k5
    | exact BC1.out _ k4
    | exact BC1.out _ (Below.refl _ _)
    | exact BC1.out _ (Below.refl _ _).drew)
    (first
    | (go_at_call 9; refine (CR.out _ (bnext (bnext UP.out K1.out) k4)).mono ?_; rintro e w5 ⟨rfl, b5⟩; have k5 := bnext k4 b5)
    | (go_at_call 8; refine (CD.out _ (bnext (bnext UP.out K1.out) (by first | exact (Below.refl _ _).drew | exact Below.refl _ _))).mono ?_; rintro e w4 ⟨rfl, b4⟩; have k4 : Below w1.heap.size w1 w4 := (by first | exact b4 | exact bnext (Below.refl _ _).drew b4 | exact (Below.refl _ _).drew.trans b4)))
  all_goals
    go_wp2
    go_ret
    exact ⟨rfl, bnext UP.out (bnext K1.out k5)⟩
end Go.Proofs.YtnejpldbokodaaaGreatDoor
