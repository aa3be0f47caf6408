/- What names.Resolve answers. No condition. Objects few, with few parts. The objects of which the document fixes the answers. -/
import Derived.Test.YteakbpcmafdikaaGreatDoorNamProg
import Derived.Test.YteakbpcmafdikaaGreatDoorNamChose
import Derived.Test.YteakbpcmafdikaaGreatDoorChkObj
import Derived.Test.YteakbpcmafdikaaGreatDoorNamEqs
import Derived.Test.YteakbpcmafdikaaGreatDoorNmOwn
namespace Go.Proofs.YteakbpcmafdikaaGreatDoor
open Go.ChangeShapes Go.WideShapes Go.ChangeAt Go.RowKit Go.Maps
set_option linter.unusedVariables false
set_option linter.unusedSimpArgs false
open Classical in
/-- The first error of objects. -/
noncomputable def rightZ (l : List ObjM) : Int := if 16 < l.length then 8 else firstE objE l
theorem res_right {l : List ObjM} (h : rightZ l ≠ 0) : resZ l = (rightZ l, noProg) := by
  unfold rightZ at h ⊢
  unfold resZ
  by_cases h1 : 16 < l.length
  · rw [if_pos h1, if_pos h1]
  · rw [if_neg h1] at h ⊢
    rw [if_neg h1, if_pos h]
theorem right_parts {l : List ObjM} (h : rightZ l = 0) : ¬ 16 < l.length ∧ firstE objE l = 0 ∧ ∀ o ∈ l, rightO o := by
  unfold rightZ at h
  by_cases h1 : 16 < l.length
  · rw [if_pos h1] at h; cases h
  · rw [if_neg h1] at h
    refine ⟨h1, h, fun o ho => rightO_of ?_⟩
    rcases firstE_bd (g := objE) l with ⟨-, k⟩ | ⟨x, -, k, kn⟩
    · exact k o ho
    · rw [h] at k; exact absurd k.symm kn
theorem res_twice {l : List ObjM} (h : rightZ l = 0) (ht : twiceP (itemsL l)) : resZ l = (5, noProg) := by
  obtain ⟨h1, h2, -⟩ := right_parts h
  unfold resZ
  rw [if_neg h1, if_neg (by rw [h2]; decide), if_pos ht]
theorem res_prog {l : List ObjM} (h : rightZ l = 0) (ht : ¬ twiceP (itemsL l)) : resZ l = progZ l := by
  obtain ⟨h1, h2, -⟩ := right_parts h
  unfold resZ
  rw [if_neg h1, if_neg (by rw [h2]; decide), if_neg ht]
  unfold progZ progW
  cases meanZ (itemsL l) (-1) mainT with
  | none => rfl
  | some m =>
    dsimp only
    split
    · rfl
    · cases eachE (pfuncZ l (itemsL l) (chosenZ (itemsL l) false) (chosenZ (itemsL l) true)) (chosenZ (itemsL l) false) with
      | error e => rfl
      | ok fs =>
        dsimp only
        cases eachE (pdataZ l (itemsL l) (chosenZ (itemsL l) false) (chosenZ (itemsL l) true)) (chosenZ (itemsL l) true) <;> rfl
set_option maxRecDepth 100000 in
set_option maxHeartbeats 4000000 in
theorem right11_any {A : Nat → Prop} {w : World} {v : Value} {l : List ObjM} (h : IsObjs A w v l) (hT : Tab w) (hl : l.length ≤ 100) :
    Calls Tryz.prog 18 #[v] w fun e w' => e = .returned (.int .i64 (rightZ l)) ∧ Below w.heap.size w w' := by
  obtain ⟨a, c, rfl, -, -, lx⟩ := LstA.open h
  obtain ⟨n, en⟩ : ∃ n, l.length = n := ⟨_, rfl⟩
  rw [en] at hl lx ⊢
  have LX : Hid (∀ k, k < n → ∃ b off x, a = some ⟨b, off, none⟩ ∧ A b ∧ l[k]? = some x ∧ ObjAt A w b (off + k * 3) x) := lx
  have HN : Hid (l.length = n) := en
  have HT : Hid (Tab w) := hT
  have hn : (n : Int) ≤ 100 := by omega
  by_cases h16 : 16 < n
  · have E : Hid (rightZ l = 8) := by unfold rightZ Hid; rw [if_pos (by rw [en]; exact h16)]
    have h16' : (16 : Int) < n := by omega
    clear h hT lx en h16
    go_enter Tryz.func18, Tryz.ntmps18
    go_wp2
    go_ret
    exact ⟨ret_int E.out.symm, Below.refl _ _⟩
  have h16' : (n : Int) ≤ 16 := by omega
  have E0 : Hid (rightZ l = firstE objE l) := by unfold rightZ Hid; rw [if_neg (by rw [en]; exact h16)]
  clear h hT lx en h16
  go_enter Tryz.func18, Tryz.ntmps18
  go_wp2
  go_loopw [11] (fun i wr => ∃ k : Nat, k ≤ n ∧ i = .int .i64 k ∧ (∀ j y, j < k → l[j]? = some y → objE y = 0) ∧ Below w.heap.size w wr) (fun i _ => n - (intOf i).toNat)
  case atStart => exact ⟨0, Nat.zero_le _, rfl, (fun j y hj => by omega), Below.refl _ _⟩
  case round =>
    obtain ⟨k, hk, rfl, hs, hbel⟩ := hrel
    have HB : Hid (Below w.heap.size w wr) := hbel
    have HS : Hid (∀ j y, j < k → l[j]? = some y → objE y = 0) := hs
    clear hbel hs
    by_cases hlt : k < n
    · have hlt' : (k : Int) < n := by omega
      obtain ⟨b, off, o, rfl, -, hx, vf, vd, vn, x0, x1, x2, hf, hd, hnn⟩ := LX.out k hlt
      have HX : Hid (l[k]? = some o) := hx
      have IO : Hid (∀ W, Below w.heap.size w W → Calls Tryz.prog 37 #[.agg #[vf, vd, vn]] W fun e w' => e = .returned (.int .i64 (objE o)) ∧ Below W.heap.size W w') := fun W hW => obj_any ⟨_, _, _, rfl, hf.keep (Stay.of_below hW), hd.keep (Stay.of_below hW), hnn.keep (Stay.of_below hW)⟩ (HT.out.later hW)
      obtain ⟨fa, fc, rfl, -, -, -⟩ := LstA.open hf
      obtain ⟨da, dc, rfl, -, -, -⟩ := LstA.open hd
      obtain ⟨na, nc, rfl, -, -, -⟩ := LstA.open hnn
      replace x0 := cell_any x0 HB.out
      replace x1 := cell_any x1 HB.out
      replace x2 := cell_any x2 HB.out
      generalize o.funcs.length = F at IO x0
      generalize o.datas.length = D at IO x1
      generalize o.notes.length = N at IO x2
      have UP2 : Hid (Below wr.heap.size wr (wr.alloc (.cells #[.slice fa F fc, .slice da D dc, .slice na N nc] 46))) := keep_alloc8 (Below.refl _ _) _
      obtain ⟨ez, eez⟩ : ∃ ez, objE o = ez := ⟨_, rfl⟩
      have EZ : Hid (objE o = ez) := eez
      rw [eez] at IO
      clear hx hf hd hnn eez
      by_cases h0 : ez = 0
      · have g0 : (ez == 0) = true := by simpa using h0
        have HS2 : Hid (∀ j y, j < k + 1 → l[j]? = some y → objE y = 0) := upto_next (P := fun y : ObjM => objE y = 0) HS.out HX.out (by rw [EZ.out]; exact h0)
        clear h0
        go_wp2_with (go_at_call 37; refine (IO.out _ (bnext HB.out UP2.out)).mono ?_; rintro e w5 ⟨rfl, b5⟩)
        go_roundw
        case rel => exact ⟨k + 1, by omega, by go_num, HS2.out, bnext HB.out (bnext UP2.out b5)⟩
        case measure => simp [intOf]; omega
      · have g0 : (ez == 0) = false := by simpa using h0
        have E : Hid (rightZ l = ez) := by unfold Hid; rw [E0.out, firstE_at HS.out HX.out (by rw [EZ.out]; exact h0), EZ.out]
        clear h0
        go_wp2_with (go_at_call 37; refine (IO.out _ (bnext HB.out UP2.out)).mono ?_; rintro e w5 ⟨rfl, b5⟩)
        go_ret
        exact ⟨ret_int E.out.symm, bnext HB.out (bnext UP2.out b5)⟩
    · obtain rfl : k = n := by omega
      have E : Hid (rightZ l = 0) := by
        unfold Hid
        rw [E0.out]
        refine firstE_all fun x hx => ?_
        obtain ⟨j, hj, rfl⟩ := List.getElem_of_mem hx
        exact HS.out j _ (by have := HN.out; omega) (List.getElem?_eq_getElem hj)
      go_wp2
      go_ret
      exact ⟨ret_int E.out.symm, HB.out⟩
theorem objs_keep {A : Nat → Prop} {w W : World} {v : Value} {l : List ObjM} (h : IsObjs A w v l) (hW : Below w.heap.size w W) : IsObjs A W v l := LstA.map h (fun _ h => h) fun b o x hb _ hc => by
  obtain ⟨vf, vd, vn, h1, h2, h3, h4, h5, h6⟩ := hc
  exact ⟨vf, vd, vn, cell_any h1 hW, cell_any h2 hW, cell_any h3 hW, h4.keep (Stay.of_below hW), h5.keep (Stay.of_below hW), h6.keep (Stay.of_below hW)⟩
theorem below_set3 {B : Nat} {w W : World} {b : Nat} (h : Below B w W) (hb : B ≤ b) (u0 u1 u2 : Value) : Below B w (((W.setCell ⟨b, 0, none⟩ u0).setCell ⟨b, 1, none⟩ u1).setCell ⟨b, 2, none⟩ u2) :=
  ((h.setCell (p := ⟨b, 0, none⟩) hb _).setCell (p := ⟨b, 1, none⟩) hb _).setCell (p := ⟨b, 2, none⟩) hb _
theorem XAt.set3 {W : World} {b : Nat} {a0 a1 a2 u0 u1 u2 : Value} (h : XAt W b [a0, a1, a2]) : XAt (((W.setCell ⟨b, 0, none⟩ u0).setCell ⟨b, 1, none⟩ u1).setCell ⟨b, 2, none⟩ u2) b [u0, u1, u2] :=
  ((h.set 0 (by simp) u0).set 1 (by simp) u1).set 2 (by simp) u2
/-- What is asked of names.Resolve's answer. -/
def ResPost (l : List ObjM) (w : World) (e : Ending) (w' : World) : Prop :=
  (∃ a d LF LD E, resZ l = (0, ⟨LF.map Prod.fst, LD.map Prod.fst, E⟩) ∧ e = .returned (.tuple #[.agg #[a, d, .int .i64 E], .int .i64 0]) ∧ Prg w.heap.size a d LF LD w') ∨
  ∃ x, resZ l = (x, noProg) ∧ x ≠ 0 ∧ e = .returned (.tuple #[.agg #[.slice none 0 0, .slice none 0 0, .int .i64 0], .int .i64 x])
set_option maxRecDepth 100000 in
set_option maxHeartbeats 4000000 in
theorem resolve_any {A : Nat → Prop} {w : World} {v : Value} {l : List ObjM} (h : IsObjs A w v l) (hT : Tab w) (hl : l.length ≤ 20) (hfew : ∀ o ∈ l, fewO o) :
    Calls Tryz.prog 11 #[v] w fun e w' => ResPost l w e w' ∧ Below w.heap.size w w' := by
  have HO : Hid (IsObjs A w v l) := h
  have LEN : Hid (l.length ≤ 20) := hl
  have FW : Hid (∀ o ∈ l, fewO o) := hfew
  have RI : Hid (∀ W, Below w.heap.size w W → Calls Tryz.prog 18 #[v] W fun e w' => e = .returned (.int .i64 (rightZ l)) ∧ Below W.heap.size W w') := fun W hW => right11_any (objs_keep h hW) (hT.later hW) (by omega)
  obtain ⟨oa, oc, rfl, -, -, -⟩ := LstA.open h
  generalize l.length = n at HO RI
  have UP1 : Hid (Below w.heap.size w (w.alloc (.cells #[.slice none 0 0, .slice none 0 0, .int .i64 0] 28))) := keep_alloc8 (Below.refl _ _) _
  have XR : Hid (XAt (w.alloc (.cells #[.slice none 0 0, .slice none 0 0, .int .i64 0] 28)) w.heap.size [.slice none 0 0, .slice none 0 0, .int .i64 0]) := XAt.new _ _ _
  have SZ : Hid (w.heap.size < (w.alloc (.cells #[.slice none 0 0, .slice none 0 0, .int .i64 0] 28)).heap.size) := by unfold Hid; simp
  obtain ⟨rz, erz⟩ : ∃ rz, rightZ l = rz := ⟨_, rfl⟩
  rw [erz] at RI
  have ERZ : Hid (rightZ l = rz) := erz
  clear h hT hl hfew erz
  by_cases h0 : rz = 0
  rotate_left
  · have g0 : (rz == 0) = false := by simpa using h0
    have RZ : Hid (resZ l = (rz, noProg) ∧ rz ≠ 0) := ⟨by rw [← ERZ.out]; exact res_right (by rw [ERZ.out]; exact h0), h0⟩
    clear h0
    go_enter Tryz.func11, Tryz.ntmps11
    go_upto_region 3 with (go_at_call 18; refine (RI.out _ UP1.out).mono ?_; rintro e w1 ⟨rfl, b1⟩)
    have X1 : Hid (XAt w1 w.heap.size [.slice none 0 0, .slice none 0 0, .int .i64 0]) := XR.out.later SZ.out b1
    have r0 := X1.out.1 0 _ rfl
    have r1 := X1.out.1 1 _ rfl
    have r2 := X1.out.1 2 _ rfl
    have fz := X1.out.2
    go_wp2
    exact bodyPost_ret (results_cell_tmp Tryz.results11 _ w.heap.size (by first | rfl | simp) _ [.slice none 0 0, .slice none 0 0, .int .i64 0] (XAt.set3 X1.out) Tryz.underlying28 rfl (by kernel_rfl) (.int .i64 rz) (by first | rfl | simp)) rfl
      ⟨.inr ⟨rz, RZ.out.1, RZ.out.2, rfl⟩, below_set3 (bnext UP1.out b1) (Nat.le_refl _) _ _ _⟩
  have R0 : Hid (rightZ l = 0) := by unfold Hid; rw [ERZ.out]; exact h0
  have RT : Hid (∀ o ∈ l, rightO o) := (right_parts R0.out).2.2
  subst h0
  have HD : Hid (∀ W, Below w.heap.size w W → Calls Tryz.prog 19 #[.slice oa n oc] W fun e w' => ((∃ b n H, e = .returned (.tuple #[.map (some b), .int .i64 0]) ∧ noTwice (itemsL l) ∧ HeldAt w' b n H ∧ heldOk (sizeI l) (alignI l) (itemsL l) H ∧ W.heap.size ≤ b) ∨
      (e = .returned (.tuple #[.map none, .int .i64 5]) ∧ twiceP (itemsL l))) ∧ Below W.heap.size W w') := fun W hW => hold_any (objs_keep HO.out hW) LEN.out FW.out RT.out
  clear ERZ
  go_enter Tryz.func11, Tryz.ntmps11
  go_upto_region 4 with (go_at_call 18; refine (RI.out _ UP1.out).mono ?_; rintro e w1 ⟨rfl, b1⟩)
  have X1 : Hid (XAt w1 w.heap.size [.slice none 0 0, .slice none 0 0, .int .i64 0]) := XR.out.later SZ.out b1
  have UP2 : Hid (Below w.heap.size w w1) := bnext UP1.out b1
  have SZ1 : Hid (w.heap.size < w1.heap.size) := Nat.lt_of_lt_of_le SZ.out b1.size
  clear b1 XR UP1 SZ RI
  go_upto_region 5 with (go_at_call 19; refine (HD.out _ UP2.out).mono ?_; rintro e w2 ⟨⟨mb, mn, H, rfl, nt, hm, ho, -⟩ | ⟨rfl, tw⟩, b2⟩)
  rotate_left
  · have RZ : Hid (resZ l = (5, noProg)) := res_twice R0.out tw
    have X2 : Hid (XAt w2 w.heap.size [.slice none 0 0, .slice none 0 0, .int .i64 0]) := X1.out.later SZ1.out b2
    have r0 := X2.out.1 0 _ rfl
    have r1 := X2.out.1 1 _ rfl
    have r2 := X2.out.1 2 _ rfl
    have fz := X2.out.2
    clear tw
    go_wp2
    exact bodyPost_ret (results_cell_tmp Tryz.results11 _ w.heap.size (by first | rfl | simp) _ [.slice none 0 0, .slice none 0 0, .int .i64 0] (XAt.set3 X2.out) Tryz.underlying28 rfl (by kernel_rfl) (.int .i64 5) (by first | rfl | simp)) rfl
      ⟨.inr ⟨5, RZ.out, by decide, rfl⟩, below_set3 (bnext UP2.out b2) (Nat.le_refl _) _ _ _⟩
  have RZ : Hid (resZ l = progZ l) := res_prog R0.out (once_not nt)
  have X2 : Hid (XAt w2 w.heap.size [.slice none 0 0, .slice none 0 0, .int .i64 0]) := X1.out.later SZ1.out b2
  have UP3 : Hid (Below w.heap.size w w2) := bnext UP2.out b2
  have SZ2 : Hid (w.heap.size < w2.heap.size) := Nat.lt_of_lt_of_le SZ1.out b2.size
  have O2 : Hid (IsObjs A w2 (.slice oa n oc) l) := objs_keep HO.out UP3.out
  have CH : Hid (Calls Tryz.prog 21 #[.slice oa n oc, .map (some mb)] w2 fun e w' => (∃ vf vd LF LD, e = .returned (.agg #[vf, vd]) ∧ Chn A w2 w2.heap.size vf vd LF LD w' ∧ LF.map pfM = CF l (itemsL l) ∧ LD.map pdM = CD l (itemsL l) ∧ LF.length + LD.length ≤ 3000) ∧ Below w2.heap.size w2 w') := choose_any O2.out LEN.out FW.out RT.out hm ho
  have PR : Hid (∀ W vf vd LF LD, Below w2.heap.size w2 W → Chn A w2 w2.heap.size vf vd LF LD W → LF.map pfM = CF l (itemsL l) → LD.map pdM = CD l (itemsL l) → LF.length + LD.length ≤ 3000 → Calls Tryz.prog 20 #[.slice oa n oc, .agg #[vf, vd]] W fun e w' => ProgPost l W e w' ∧ Below W.heap.size W w') := fun W vf vd LF LD h1 h2 h3 h4 h5 => program_any O2.out h1 LEN.out FW.out RT.out h2 h3 h4 h5
  clear nt hm ho b2 X1 UP2 SZ1 HD
  go_upto_region 7 with fail
  go_wp2_with (first
    | (go_at_call 21; refine CH.out.mono ?_; rintro e w3 ⟨⟨vf, vd, LF, LD, rfl, hc, hcf, hcd, hcl⟩, b3⟩; obtain ⟨fa, fc, rfl⟩ := own_form hc.f; obtain ⟨da, dc, rfl⟩ := own_form hc.d)
    | (go_at_call 20; refine (PR.out _ _ _ _ _ b3 hc hcf hcd hcl).mono ?_; rintro e w4 ⟨⟨ra, rd, PF, PD, E, hp, rfl, hg⟩ | ⟨x, hp, hx, rfl⟩, b4⟩; all_goals (have X4 : Hid (XAt w4 w.heap.size [.slice none 0 0, .slice none 0 0, .int .i64 0]) := X2.out.later SZ2.out (bnext b3 b4); have r0 := X4.out.1 0 _ rfl; have r1 := X4.out.1 1 _ rfl; have r2 := X4.out.1 2 _ rfl; have fz := X4.out.2; try (obtain ⟨ga, gc, rfl⟩ := own_form hg.f; obtain ⟨ya, yc, rfl⟩ := own_form hg.d))))
  · refine bodyPost_ret (results_cell_tmp Tryz.results11 _ w.heap.size (by first | rfl | simp) _ [.slice ga PF.length gc, .slice ya PD.length yc, .int .i64 E] (XAt.set3 X4) Tryz.underlying28 rfl (by kernel_rfl) (.int .i64 0) (by first | rfl | simp)) rfl
      ⟨.inl ⟨_, _, PF, PD, E, RZ.out.trans hp, rfl, ?_⟩, below_set3 (bnext UP3.out (bnext b3 b4)) (Nat.le_refl _) _ _ _⟩
    have h3 : w.heap.size < w3.heap.size := Nat.lt_of_lt_of_le SZ2.out b3.size
    exact (hg.stay fun q h1 h2 => (Below.heap_setCell _ _ _ _ (by simp; omega)).trans ((Below.heap_setCell _ _ _ _ (by simp; omega)).trans (Below.heap_setCell _ _ _ _ (by simp; omega)))).lower (by omega)
  · exact bodyPost_ret (results_cell_tmp Tryz.results11 _ w.heap.size (by first | rfl | simp) _ [.slice none 0 0, .slice none 0 0, .int .i64 0] (XAt.set3 X4) Tryz.underlying28 rfl (by kernel_rfl) (.int .i64 x) (by first | rfl | simp)) rfl
      ⟨.inr ⟨x, RZ.out.trans hp, hx, rfl⟩, below_set3 (bnext UP3.out (bnext b3 b4)) (Nat.le_refl _) _ _ _⟩
open Go.ChangeShapes Go.WideShapes Go.ChangeAt Go.RowKit
set_option linter.unusedVariables false
set_option linter.unusedSimpArgs false
set_option maxRecDepth 100000 in
set_option maxHeartbeats 4000000 in
theorem few11_any {A : Nat → Prop} {w : World} {v : Value} {l : List ObjM} (h : IsObjs A w v l) :
    Calls Tryz.prog 10 #[v] w fun e w' => Says e (l.length ≤ 18 ∧ ∀ o ∈ l, fewO o) ∧ Below w.heap.size w w' := by
  obtain ⟨a, c, rfl, lm, -, lx⟩ := LstA.open h
  obtain ⟨n, en⟩ : ∃ n, l.length = n := ⟨_, rfl⟩
  rw [en] at lm lx ⊢
  have LX : Hid (∀ k, k < n → ∃ b off x, a = some ⟨b, off, none⟩ ∧ A b ∧ l[k]? = some x ∧ ObjAt A w b (off + k * 3) x) := lx
  have HN : Hid (l.length = n) := en
  clear h lx en lm
  go_enter Tryz.func10, Tryz.ntmps10
  go_wp2
  go_loopw [3] (fun i wr => ∃ k : Nat, k ≤ n ∧ k ≤ 20 ∧ i = .int .i64 k ∧ (∀ j y, j < k → l[j]? = some y → fewO y) ∧ Below w.heap.size w wr) (fun i _ => n - (intOf i).toNat)
  case atStart => exact ⟨0, Nat.zero_le _, by omega, rfl, (fun j y hj => by omega), Below.refl _ _⟩
  case round =>
    obtain ⟨k, hk, hk20, rfl, hs, hbel⟩ := hrel
    have HB : Hid (Below w.heap.size w wr) := hbel
    have HS : Hid (∀ j y, j < k → l[j]? = some y → fewO y) := hs
    clear hbel hs
    by_cases hlt : k < n
    · have hlt' : (k : Int) < n := by omega
      by_cases h20 : k < 20
      · have h20' : (k : Int) < 20 := by omega
        obtain ⟨b, off, o, rfl, -, hx, vf, vd, vn, x0, x1, x2, hf, hd, hnn⟩ := LX.out k hlt
        have HX : Hid (l[k]? = some o) := hx
        have IO : Hid (∀ W, Below w.heap.size w W → Calls Tryz.prog 17 #[.agg #[vf, vd, vn]] W fun e w' => Says e (fewO o) ∧ Below W.heap.size W w') := fun W hW => few_any ⟨_, _, _, rfl, hf.keep (Stay.of_below hW), hd.keep (Stay.of_below hW), hnn.keep (Stay.of_below hW)⟩
        obtain ⟨fa, fc, rfl, -, -, -⟩ := LstA.open hf
        obtain ⟨da, dc, rfl, -, -, -⟩ := LstA.open hd
        obtain ⟨na, nc, rfl, -, -, -⟩ := LstA.open hnn
        replace x0 := cell_any x0 HB.out
        replace x1 := cell_any x1 HB.out
        replace x2 := cell_any x2 HB.out
        generalize o.funcs.length = F at IO x0
        generalize o.datas.length = D at IO x1
        generalize o.notes.length = N at IO x2
        clear hx hf hd hnn
        go_wp2_with (go_at_call 17; refine (IO.out _ HB.out).mono ?_; rintro e w5 ⟨⟨q, rfl, hq⟩, b5⟩; have HQ : Hid (q = true ↔ fewO o) := hq; clear hq; cases q)
        · go_ret
          exact ⟨⟨false, rfl, iff_no (fun e => by have := HQ.out.2 (e.2 o (List.mem_of_getElem? HX.out)); cases this)⟩, bnext HB.out b5⟩
        · go_roundw
          case rel => exact ⟨k + 1, by omega, by omega, by go_num, upto_next (P := fewO) HS.out HX.out (HQ.out.1 trivial), bnext HB.out b5⟩
          case measure => simp [intOf]; omega
      · obtain rfl : k = 20 := by omega
        have h18 : (18 : Int) < n := by omega
        go_wp2
        go_ret
        exact ⟨⟨_, rfl, decide_eq_true_iff.trans ⟨fun e => absurd e (by omega), fun e => by have := e.1; omega⟩⟩, HB.out⟩
    · obtain rfl : k = n := by omega
      have E : Hid (∀ x ∈ l, fewO x) := by
        refine fun x hx => ?_
        obtain ⟨j, hj, rfl⟩ := List.getElem_of_mem hx
        exact HS.out j _ (by have := HN.out; omega) (List.getElem?_eq_getElem hj)
      go_wp2
      go_ret
      exact ⟨⟨_, rfl, decide_eq_true_iff.trans ⟨fun e => ⟨by omega, E.out⟩, fun e => by have := e.1; omega⟩⟩, HB.out⟩
open Go.ChangeShapes Go.WideShapes Go.ChangeAt Go.RowKit
set_option linter.unusedVariables false
set_option linter.unusedSimpArgs false
def rF (s : ByteArray) (b : Int) : FuncM := ⟨s, b, [352321536], []⟩
def fT : ByteArray := ⟨#[102]⟩
theorem rF_one {x y : Int} {k : Nat} (h : ([x] : List Int)[k]? = some y) : k = 0 ∧ y = x := by
  cases k with
  | zero => simp at h; exact ⟨rfl, h.symm⟩
  | succ k => simp at h
theorem rF_e {s : ByteArray} {b : Int} (hb : bindOk b) : fnE (rF s b) = 0 := by
  refine fnE_ok ⟨hb, by simp [rF]⟩ (fun x hx => ?_) ⟨fun i r hi => by simp [rF] at hi, fun k x hk hx h => ?_⟩ (fun k x hk hx h => ?_) (fun x hx => ?_)
  · simp [rF] at hx; subst hx; decide
  · obtain ⟨-, rfl⟩ := rF_one hx; exact absurd h (by decide)
  · obtain ⟨-, rfl⟩ := rF_one hx; exact absurd h (by decide)
  · obtain ⟨-, rfl⟩ := rF_one hx; exact .inr (by decide)
theorem rF_ok {s : ByteArray} {b : Int} (hb : 1 ≤ b ∧ b ≤ 255) (hs : namedB s = true) : funcOk (rF s b) :=
  ⟨hs, hb, ⟨by simp [rF], fun x hx => by simp [rF] at hx; subst hx; decide⟩, ⟨by simp [rF], fun r hr => by simp [rF] at hr⟩⟩
def o1 : ObjM := ⟨[rF mainT 2, rF fT 2], [], []⟩
def o2 : ObjM := ⟨[rF fT 1], [], []⟩
theorem o1_e : objE o1 = 0 := objE_ok ⟨⟨by decide, fun x hx => by simp [o1] at hx; rcases hx with rfl | rfl <;> exact rF_ok (by decide) (by decide)⟩, ⟨by decide, fun x hx => by simp [o1] at hx⟩, ⟨by decide, fun x hx => by simp [o1] at hx⟩⟩
  (firstE_all fun x hx => by simp [o1] at hx; rcases hx with rfl | rfl <;> exact rF_e (by unfold bindOk; decide)) (fun x hx => by simp [o1] at hx) ⟨by simp only [namesL, o1, rF, List.map_cons, List.map_nil, List.append_nil]; decide, fun x hx => by simp [o1] at hx⟩
theorem o2_e : objE o2 = 0 := objE_ok ⟨⟨by decide, fun x hx => by simp [o2] at hx; subst hx; exact rF_ok (by decide) (by decide)⟩, ⟨by decide, fun x hx => by simp [o2] at hx⟩, ⟨by decide, fun x hx => by simp [o2] at hx⟩⟩
  (firstE_all fun x hx => by simp [o2] at hx; subst hx; exact rF_e (by unfold bindOk; decide)) (fun x hx => by simp [o2] at hx) ⟨by simp [namesL, o2, rF], fun x hx => by simp [o2] at hx⟩
theorem right12 : rightZ [o1, o2] = 0 := by
  unfold rightZ
  rw [if_neg (by decide)]
  exact firstE_all fun x hx => by simp at hx; rcases hx with rfl | rfl <;> first | exact o1_e | exact o2_e
theorem right122 : rightZ [o1, o2, o2] = 0 := by
  unfold rightZ
  rw [if_neg (by decide)]
  exact firstE_all fun x hx => by simp at hx; rcases hx with rfl | rfl <;> first | exact o1_e | exact o2_e
theorem right2 : rightZ [o2] = 0 := by
  unfold rightZ
  rw [if_neg (by decide)]
  exact firstE_all fun x hx => by simp at hx; subst hx; exact o2_e
theorem res12 : resZ [o1, o2] = (0, ⟨[⟨mainT, false, false, [352321536], []⟩, ⟨fT, false, false, [352321536], []⟩], [], 0⟩) := by
  have hn : noTwice (itemsL [o1, o2]) := by
    show List.Pairwise _ [(⟨0, 0, false, mainT, 2⟩ : ItemM), ⟨0, 1, false, fT, 2⟩, ⟨1, 0, false, fT, 1⟩]
    simp
  rw [res_prog right12 (once_not hn)]
  rfl
theorem res122 : resZ [o1, o2, o2] = (5, noProg) := res_twice right122 ⟨3, 2, ⟨2, 0, false, fT, 1⟩, ⟨1, 0, false, fT, 1⟩, by decide, rfl, rfl, rfl, rfl, rfl⟩
theorem res2 : resZ [o2] = (6, noProg) := by
  have hn : noTwice (itemsL [o2]) := by
    show List.Pairwise _ [(⟨0, 0, false, fT, 1⟩ : ItemM)]
    simp
  rw [res_prog right2 (once_not hn)]
  rfl
theorem rF_few {s : ByteArray} {b : Int} (hs : s.size ≤ 100) : fewF (rF s b) := ⟨by simp [rF], by simp [rF], hs⟩
theorem o1_few : fewO o1 := ⟨by decide, fun x hx => by simp [o1] at hx; rcases hx with rfl | rfl <;> exact rF_few (by decide), fun x hx => by simp [o1] at hx⟩
theorem o2_few : fewO o2 := ⟨by decide, fun x hx => by simp [o2] at hx; subst hx; exact rF_few (by decide), fun x hx => by simp [o2] at hx⟩
/-- One word, in a block of its own. -/
theorem one_word {X : World} {b : Nat} {x : Int} (h : X.cell? ⟨b, 0, none⟩ = some (.int .u32 x)) (h0 : 0 ≤ x) (h1 : x < 4294967296) : IsWords (fun _ => True) X (.slice (some ⟨b, 0, none⟩) 1 1) [x] :=
  ⟨⟨_, _, rfl, ⟨⟨Nat.le_refl _, fun e => by cases e⟩, by decide⟩, fun _ _ => trivial, .inr ⟨b, 0, rfl, fun i y hi => by
    obtain ⟨rfl, rfl⟩ := rF_one hi
    exact h⟩⟩, fun y hy => by simp at hy; subst hy; exact ⟨h0, h1⟩⟩
abbrev rC (s : ByteArray) (b : Int) (p : Nat) : List Value := [.string s, .int .i64 b, .slice (some ⟨p, 0, none⟩) 1 1, .slice none 0 0]
/-- So a function of one instruction lies somewhere. -/
def RAt (X : World) (b o : Nat) (s : ByteArray) (d : Int) : Prop := ∃ p, p < X.heap.size ∧ X.cell? ⟨p, 0, none⟩ = some (.int .u32 352321536) ∧ ∀ i y, (rC s d p)[i]? = some y → X.cell? ⟨b, o + i, none⟩ = some y
theorem RAt.at {X : World} {b o : Nat} {s : ByteArray} {d : Int} (h : RAt X b o s d) (hd : s.size ≤ maxLen) : FuncAt (fun _ => True) X b o (rF s d) := by
  obtain ⟨p, -, hp, h⟩ := h
  exact ⟨_, _, h 0 _ rfl, h 1 _ rfl, h 2 _ rfl, h 3 _ rfl, one_word hp (by decide) (by decide), LstA.nil, hd⟩
theorem two_at11 (X : World) (c1 c2 : Array Value) (t1 t2 : TypeId) : XAt ((X.alloc (.cells c1 t1)).alloc (.cells c2 t2)) X.heap.size c1.toList ∧ XAt ((X.alloc (.cells c1 t1)).alloc (.cells c2 t2)) (X.heap.size + 1) c2.toList ∧ Below X.heap.size X ((X.alloc (.cells c1 t1)).alloc (.cells c2 t2)) := by
  have h := XAt.new (X.alloc (.cells c1 t1)) c2 t2
  rw [World.size_alloc] at h
  exact ⟨(XAt.new X c1 t1).later (by simp) (keep_alloc8 (Below.refl _ _) _), h, keep_alloc8 (keep_alloc8 (Below.refl _ _) _) _⟩
end Go.Proofs.YteakbpcmafdikaaGreatDoor
