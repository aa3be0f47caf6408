/- awake of layer 6 returns true. -/
import Derived.Test.YtcibifgbnpcpmaaDoorCpu
namespace Go.Proofs.YtcibifgbnpcpmaaDoor
open Go.ChangeShapes Go.WideShapes Go.ChangeAt Go.RowKit
set_option linter.unusedVariables false
def awS : St := newZ 0 1 (fun _ => 1) 0 3 1 (fun _ => 7)
def awT : St := { awS with r := setR (fun _ => 0) 1 7, inn := 0, inf := fun _ => 7, at_ := 1 }
def awU : St := { awT with cd := 7, en := true, ft := 0 }
theorem aw_t : stepZ 1 (fun _ => 370147328) awS = awT := step_in 1 _ awS rfl 0 rfl (by omega) 370147328 rfl (by decide) (by decide) (by decide)
theorem aw_u : stepZ 2 (fun k => if k = 0 then 370147328 else 1048576) awT = awU := step_halt 2 _ awT rfl 1 rfl (by omega) 1048576 rfl (by decide) (by decide)
theorem aw_s_small : Small awS := ⟨⟨rfl, fun j => ⟨by simp [awS, newZ], by simp [awS, newZ]⟩⟩, ⟨by decide, by decide⟩, ⟨by decide, by decide, by decide, by decide⟩, rfl, ⟨by decide, by decide⟩, rfl⟩
theorem aw_t_small : Small awT := by
  refine ⟨⟨rfl, fun j => ?_⟩, ⟨by decide, by decide⟩, ⟨by decide, by decide, by decide, by decide⟩, rfl, ⟨by decide, by decide⟩, rfl⟩
  show 0 ≤ setR (fun _ => 0) 1 7 j ∧ setR (fun _ => 0) 1 7 j < 4294967296
  unfold setR
  split
  · omega
  · split
    · omega
    · simp only []; omega
theorem aw_st : sameZ awS awT = false := by decide
theorem aw_row (w : World) (F : Nat → Int) (n : Nat) (cs : Array Value) (hc : ∀ i, i < n → cs[i]? = some (.int .u8 (F i))) (hF : ∀ i, 0 ≤ F i ∧ F i < 256) : Bytes (w.alloc (.cells cs 5)) (some ⟨w.heap.size, 0, none⟩) n F :=
  ⟨hF, .inr ⟨_, 0, rfl, fun i hi => by rw [Nat.zero_add]; exact new_cell' w cs _ i _ (hc i hi)⟩⟩
theorem aw_words (w : World) (F : Nat → Int) (n : Nat) (cs : Array Value) (hc : ∀ i, i < n → cs[i]? = some (.int .u32 (F i))) (hF : ∀ i, (Lit.int .u32 (F i)).wf = true) : RowK .u32 (w.alloc (.cells cs 26)) (some ⟨w.heap.size, 0, none⟩) n F :=
  ⟨hF, .inr ⟨_, 0, rfl, fun i hi => by rw [Nat.zero_add]; exact new_cell' w cs _ i _ (hc i hi)⟩⟩
set_option maxRecDepth 100000 in
set_option maxHeartbeats 4000000 in
theorem awake_st (w : World) (hT : Tab w) : Calls Tryd.prog 7 #[] w fun e w' => e = .returned (.bool true) ∧ Below w.heap.size w w' := by
  have W0 : Hid (Below w.heap.size w ((w.alloc (.cells #[.int .u8 1] 5)).alloc (.cells #[.int .u8 7] 5))) := ((Below.refl _ w).alloc (Nat.le_refl _) _).alloc (by simp) _
  have D0 : Hid (Bytes ((w.alloc (.cells #[.int .u8 1] 5)).alloc (.cells #[.int .u8 7] 5)) (some ⟨w.heap.size, 0, none⟩) 1 (fun _ => 1)) := (aw_row w (fun _ => 1) 1 #[.int .u8 1] (fun i hi => by obtain rfl : i = 0 := (by omega); rfl) (fun i => by simp)).later ((Below.refl _ _).alloc (Nat.le_refl _) _)
  have N0 : Hid (Bytes ((w.alloc (.cells #[.int .u8 1] 5)).alloc (.cells #[.int .u8 7] 5)) (some ⟨w.heap.size + 1, 0, none⟩) 1 (fun _ => 7)) := by
    have h := aw_row (w.alloc (.cells #[.int .u8 1] 5)) (fun _ => 7) 1 #[.int .u8 7] (fun i hi => by obtain rfl : i = 0 := (by omega); rfl) (fun i => by simp)
    rwa [show (w.alloc (.cells #[.int .u8 1] 5)).heap.size = w.heap.size + 1 from by simp] at h
  have NW : Hid (Calls Tryd.prog 9 #[.agg #[.slice none 0 0, .int .i64 0, .slice (some ⟨w.heap.size, 0, none⟩) 1 1, .int .i64 0, .int .i64 3], .slice (some ⟨w.heap.size + 1, 0, none⟩) 1 1] ((w.alloc (.cells #[.int .u8 1] 5)).alloc (.cells #[.int .u8 7] 5)) fun e w' => ∃ v', e = .returned v' ∧ IsSt w' v' awS ∧ Below ((w.alloc (.cells #[.int .u8 1] 5)).alloc (.cells #[.int .u8 7] 5)).heap.size ((w.alloc (.cells #[.int .u8 1] 5)).alloc (.cells #[.int .u8 7] 5)) w') :=
    new_st _ none 0 0 0 _ 1 1 _ 0 3 _ 1 1 _ (by omega) (by omega) (by omega) ⟨Nat.le_refl _, fun e => by cases e⟩ ⟨Nat.le_refl _, fun e => by cases e⟩ D0.out N0.out
  have T0 : Hid (Tab ((w.alloc (.cells #[.int .u8 1] 5)).alloc (.cells #[.int .u8 7] 5))) := hT.later W0.out
  have SI : Hid (∀ i, (Lit.int .u32 ((fun _ => 370147328 : Nat → Int) i)).wf = true) := fun i => rfl
  have SJ : Hid (∀ i, (Lit.int .u32 ((fun k => if k = 0 then 370147328 else 1048576 : Nat → Int) i)).wf = true) := fun i => by simp only []; split <;> rfl
  clear hT D0 N0
  go_enter Tryd.func7, Tryd.ntmps7
  go_upto_region 2 with (first
    | (go_at_call 9; refine NW.out.mono ?_; rintro e w1 ⟨v1, rfl, I1, hb1⟩; obtain ⟨C1, rfl⟩ := isSt_agg I1)
    | ((with_reducible show wpList _ _ _ (Oper.mk _ (Op.store _ _ _) _ _ _ _ :: _) _ _); refine wpList_store_fresh rfl 32 (.tmp 1) (.tmp 7) rfl w1 _ _ C1 rfl rfl (by rw [(st_shape I1).1]; rfl) (st_info I1).1 (st_shape I1).2 ?_; intro w2 hb2 A2 Z2))
  have B2 : Hid (Below w.heap.size w w2) := W0.out.trans ((bnext hb1 hb2).mono W0.out.size)
  have T2 : Hid (Tab w2) := T0.out.later (bnext hb1 hb2)
  have I2 : Hid (IsSt w2 (.agg C1) awS) := I1.later hb2
  clear hb1 hb2 T0 NW W0
  go_upto_region 3 with (first
    | (go_at_call 13; refine (step_full (I2.out.later ((Below.refl _ _).alloc (Nat.le_refl _) _)) aw_s_small _ 1 1 (fun _ => 370147328) (by omega) ⟨Nat.le_refl _, fun e => by cases e⟩ (aw_words w2 _ 1 #[.int .u32 370147328] (fun i hi => by obtain rfl : i = 0 := (by omega); rfl) SI.out) (T2.out.later ((Below.refl _ _).alloc (Nat.le_refl _) _))).mono ?_; rintro e w3 ⟨C2, rfl, I3, -, hb3⟩)
    | ((with_reducible show wpList _ _ _ (Oper.mk _ (Op.load _ _) _ _ _ _ :: _) _ _); refine wpList_load_if (by first | rfl | go_simp) 32 (.tmp 1) rfl w1.heap.size 0 rfl C1.toList _ (at_range ((A2.out.later ((Below.refl _ _).alloc (Nat.le_refl _) _)))) Tryd.underlying32 rfl (st_info I2.out).2 ?_)
    | ((with_reducible show wpList _ _ _ (Oper.mk _ (Op.store _ _ _) _ _ _ _ :: _) _ _); refine wpList_store_fresh rfl 32 (.tmp 2) (.tmp 10) rfl w3 _ _ C2 rfl rfl (by rw [(st_shape I3).1]; rfl) (st_info I3).1 (st_shape I3).2 ?_; intro w4 hb4 A4 Z4))
  have B24 : Hid (Below w2.heap.size w2 w4) := bnext (bnext ((Below.refl _ _).alloc (Nat.le_refl _) _) hb3) hb4
  have I4 : Hid (IsSt w4 (.agg C2) awT) := by rw [aw_t] at I3; exact I3.later hb4
  have T4 : Hid (Tab w4) := T2.out.later B24.out
  clear hb3 hb4 I3
  go_upto_region 4 with (first
    | (go_at_call 13; refine (step_full (I4.out.later ((Below.refl _ _).alloc (Nat.le_refl _) _)) aw_t_small _ 2 2 (fun k => if k = 0 then 370147328 else 1048576) (by omega) ⟨Nat.le_refl _, fun e => by cases e⟩ (aw_words w4 _ 2 #[.int .u32 370147328, .int .u32 1048576] (fun i hi => by rcases (by omega : i = 0 ∨ i = 1) with rfl | rfl <;> rfl) SJ.out) (T4.out.later ((Below.refl _ _).alloc (Nat.le_refl _) _))).mono ?_; rintro e w5 ⟨C3, rfl, I5, -, hb5⟩)
    | ((with_reducible show wpList _ _ _ (Oper.mk _ (Op.load _ _) _ _ _ _ :: _) _ _); refine wpList_load_if (by first | rfl | go_simp) 32 (.tmp 2) rfl w3.heap.size 0 rfl C2.toList _ (at_range ((A4.out.later ((Below.refl _ _).alloc (Nat.le_refl _) _)))) Tryd.underlying32 rfl (st_info I4.out).2 ?_)
    | ((with_reducible show wpList _ _ _ (Oper.mk _ (Op.store _ _ _) _ _ _ _ :: _) _ _); refine wpList_store_fresh rfl 32 (.tmp 3) (.tmp 13) rfl w5 _ _ C3 rfl rfl (by rw [(st_shape I5).1]; rfl) (st_info I5).1 (st_shape I5).2 ?_; intro w6 hb6 A6 Z6))
  have I6 : Hid (IsSt w6 (.agg C3) awU) := by rw [aw_u] at I5; exact I5.later hb6
  have B46 : Hid (Below w4.heap.size w4 w6) := bnext (bnext ((Below.refl _ _).alloc (Nat.le_refl _) _) hb5) hb6
  have J1 : Hid (IsSt w6 (.agg C1) awS) := I2.out.later (bnext B24.out B46.out)
  have J2 : Hid (IsSt w6 (.agg C2) awT) := I4.out.later B46.out
  have E1 : Hid (At w6 w1.heap.size C1) := A2.out.later (bnext B24.out B46.out)
  have E2 : Hid (At w6 w3.heap.size C2) := A4.out.later B46.out
  have E3 : Hid (At w6 w5.heap.size C3) := A6.out
  have Q6 : Hid (Below w.heap.size w w6) := B2.out.trans ((bnext B24.out B46.out).mono B2.out.size)
  clear I5 hb5 hb6 A2 A4 A6 Z2 Z4 Z6 I2 I4 T2 T4 B24 B46 B2 SI SJ
  generalize w1.heap.size = g1 at E1 ⊢
  generalize w3.heap.size = g2 at E2 ⊢
  generalize w5.heap.size = g3 at E3 ⊢
  obtain ⟨_, _, m1, k1, _, _, _, _, e1, -⟩ := st_cells J1.out
  obtain ⟨_, _, _, _, i2, k2, _, _, e2, -⟩ := st_cells J2.out
  obtain ⟨_, _, _, _, _, _, _, _, e3, -⟩ := st_cells I6.out
  have a19 : w6.cell? ⟨g1, 19, none⟩ = some (.slice m1 4 k1) := E1.out 19 _ (by rw [e1]; rfl)
  have b2 : w6.cell? ⟨g2, 2, none⟩ = some (.int .u32 7) := E2.out 2 _ (by rw [e2]; rfl)
  have b0 : w6.cell? ⟨g2, 0, none⟩ = some (.int .i64 1) := E2.out 0 _ (by rw [e2]; rfl)
  have b20 : w6.cell? ⟨g2, 20, none⟩ = some (.slice i2 0 k2) := E2.out 20 _ (by rw [e2]; rfl)
  have c22 : w6.cell? ⟨g3, 22, none⟩ = some (.bool true) := E3.out 22 _ (by rw [e3]; rfl)
  have c23 : w6.cell? ⟨g3, 23, none⟩ = some (.int .u32 7) := E3.out 23 _ (by rw [e3]; rfl)
  have c24 : w6.cell? ⟨g3, 24, none⟩ = some (.int .i64 0) := E3.out 24 _ (by rw [e3]; rfl)
  clear e1 e2 e3
  have S1 : Hid (∀ W, Below w6.heap.size w6 W → Calls Tryd.prog 12 #[.agg C3, .agg C3] W fun e w' => e = .returned (.bool true) ∧ Below W.heap.size W w') := fun W hW => by
    have h := same_st (I6.out.later hW) (I6.out.later hW) (by decide) (by decide)
    rwa [same_self] at h
  have S2 : Hid (∀ W, Below w6.heap.size w6 W → Calls Tryd.prog 12 #[.agg C1, .agg C2] W fun e w' => e = .returned (.bool false) ∧ Below W.heap.size W w') := fun W hW => by
    have h := same_st (J1.out.later hW) (J2.out.later hW) (by decide) (by decide)
    rwa [aw_st] at h
  have h1 : Hid _ := (st_info J1.out).2
  have h2 : Hid _ := (st_info J2.out).2
  have h3 : Hid _ := (st_info I6.out).2
  clear J1 J2 I6
  go_wp2_with (first
    | (go_at_call 12; revert hb7; intro hb7; refine (S2.out _ hb7).mono ?_; rintro e w8 ⟨rfl, hb8⟩)
    | (go_at_call 12; refine (S1.out _ (Below.refl _ _)).mono ?_; rintro e w7 ⟨rfl, hb7⟩)
    | ((with_reducible show wpList _ _ _ (Oper.mk _ (Op.load _ _) _ _ _ _ :: _) _ _); refine wpList_load_if (by first | rfl | go_simp) 32 (.tmp 1) rfl g1 0 rfl C1.toList _ (at_range ((E1.out.later hb7))) Tryd.underlying32 rfl h1.out ?_)
    | ((with_reducible show wpList _ _ _ (Oper.mk _ (Op.load _ _) _ _ _ _ :: _) _ _); refine wpList_load_if (by first | rfl | go_simp) 32 (.tmp 2) rfl g2 0 rfl C2.toList _ (at_range ((E2.out.later hb7))) Tryd.underlying32 rfl h2.out ?_)
    | ((with_reducible show wpList _ _ _ (Oper.mk _ (Op.load _ _) _ _ _ _ :: _) _ _); refine wpList_load_if (by first | rfl | go_simp) 32 (.tmp 3) rfl g3 0 rfl C3.toList _ (at_range (E3.out)) Tryd.underlying32 rfl h3.out ?_))
  go_ret
  exact ⟨rfl, bnext (bnext Q6.out hb7) hb8⟩
end Go.Proofs.YtcibifgbnpcpmaaDoor
